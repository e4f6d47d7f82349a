/- Slots touched, dropped, told: walked. No condition. -/
import Derived.Test.YtadeoflkppiflaaDoorArrs
import Derived.Test.YtadeoflkppiflaaDoorArrb
namespace Go.Proofs.YtadeoflkppiflaaDoor
open Go.RowKit
set_option linter.unusedVariables false
set_option maxHeartbeats 1000000
attribute [local go_sem ↓] append_appS copy_copS clear_clrS make_mkS cell_row frozen_row loadLine storeLine loadSlot storeSlot heap_drew heap_drewN heap_alloc heap_past heap_setCell heap_putRow vs_get slc_st slc_li slc_us
attribute [local go_sem] rowCell_some rowFrozen_some rowHas_some rowIn_some rowPart_full rowPart_lit rowPut_full rowPut_lit rowSet_some size_putRow vs_size vs_one wideLine wideSlot run_loadS run_storeS run_appS run_copS run_clrS run_mkS loadW_at storeW_at fit_all fit_le one_int one_bool one_pointer one_slice allOne_list putRow_new ne_size1 ne_size2 ne_size3 ne_size4 zero8_length line_eq lit8 slc_size slc_one slc_part slc_in fold_slt fold_slc slc_set_us
attribute [local simp ↓] heap_drew heap_drewN heap_alloc heap_past heap_setCell heap_putRow
attribute [local simp] rowCell_some rowFrozen_some rowHas_some rowIn_some rowPart_full rowPart_lit rowPut_full rowPut_lit rowSet_some size_putRow vs_size fit_all putRow_new ne_size1 ne_size2 ne_size3 ne_size4 zero8_length slc_size


attribute [local go_sem ↓] loadRSlot storeRSlot
attribute [local go_sem] wideRSlot
/-! ### The document's: touched, dropped -/
theorem rtouch_any (a b S W : Nat) (xs : List Slt) (u li : Int) (w : World) (h : RArr w a b S W xs u) (u0 : 0 ≤ u) (u1 : u ≤ 1000000000) :
    Calls Tryd.prog 35 #[.pointer (some ⟨a, 0, none⟩), .int .i64 li] w (RArrTo w a b S W (touchXs xs u li) (touchU xs u li) (.tuple #[])) := by
  have H := Lib.hid h
  have HG := Lib.hid (h.2.2.2.touchXs u li)
  rcases hit_or (pLine li) xs with ⟨k, y, e1, e2, e3, e4, e5, e6⟩ | ⟨e1, e2, e3⟩
  · unfold touchXs touchU at *
    rw [e2, e3] at HG ⊢
    rw [if_pos e5]
    have HH := Lib.hid e1
    have HY := Lib.hid e3
    have ha := h.1
    have hb := h.2.1
    have oa := old ha
    have ob := old hb
    have hab := h.2.2.1
    have hba : b ≠ a := fun e => hab e.symm
    have h64 := h.2.2.2.len64
    have hce := slt_us e3 []
    have g1 : u + 1 ≤ 9223372036854775807 := by omega
    have g0 : -9223372036854775808 ≤ u + 1 := by omega
    have g3 : (k : Int) < (xs.length : Int) := by omega
    have g4 : (0 : Int) ≤ (k : Int) := by omega
    have g2 : (xs.length : Int) ≤ 64 := by omega
    have t1 : decide ((0 : Int) ≤ (k : Int)) = true := by simp
    clear h e1 e2 e3 e4 e6
    go_enter Tryd.func35, Tryd.ntmps35
    go_wp2_with fail
    refine (rat_ok a b S W xs u li w H.out).mono ?_
    rintro e w2 ⟨rfl, rfl⟩
    rw [HH.out]
    go_wp2_with fail
    go_region
    all_goals
      go_wp2_with fail
      go_end0
      refine ⟨rfl, ?_, ?_⟩
      · exact ((((Chg.refl [a, b] w).setCell a 3 _ (.inl (by simp))).drew).setCell _ _ _ (.inl (by simp)))
      · exact ((H.out.next (u + 1)).keep ((Chg.refl [] _).drew) (by simp) (by simp)).putUse HY.out _ HG.out
  · rw [show touchXs xs u li = xs by unfold touchXs; rw [e2, List.getElem?_eq_none (Nat.le_refl _)], show touchU xs u li = u by unfold touchU; rw [e2, if_neg (by omega)]]
    have HH := Lib.hid e1
    clear h e1 e2 e3 HG
    go_enter Tryd.func35, Tryd.ntmps35
    go_wp2_with fail
    refine (rat_ok a b S W xs u li w H.out).mono ?_
    rintro e w2 ⟨rfl, rfl⟩
    rw [HH.out]
    go_wp2_with fail
    go_end0
    exact RArrTo.same H.out (Chg.refl _ _) _
theorem rdrop_any (a b S W : Nat) (xs : List Slt) (u li : Int) (w : World) (h : RArr w a b S W xs u) :
    Calls Tryd.prog 47 #[.pointer (some ⟨a, 0, none⟩), .int .i64 li] w (RArrTo w a b S W (dropXs xs li) u (.bool (dropVal xs li))) := by
  have H := Lib.hid h
  have HG := Lib.hid (h.2.2.2.dropXs li)
  rcases hit_or (pLine li) xs with ⟨k, y, e1, e2, e3, e4, e5, e6⟩ | ⟨e1, e2, e3⟩
  · unfold dropXs dropVal at *
    rw [e2] at HG ⊢
    rw [show decide (k < xs.length) = true by simpa using e5]
    have HH := Lib.hid e1
    have HY := Lib.hid e3
    have ha := h.1
    have hb := h.2.1
    have oa := old ha
    have ob := old hb
    have h64 := h.2.2.2.len64
    have rh := slt_has e3 [] 78
    have rp := slt_put e3 [] 78 (0, 0) sltZ
    have g3 : (k : Int) < (xs.length : Int) := by omega
    have g4 : (0 : Int) ≤ (k : Int) := by omega
    have g2 : (xs.length : Int) ≤ 64 := by omega
    have t1 : decide ((k : Int) < 0) = false := by simp
    clear h e1 e2 e3 e4 e6
    go_enter Tryd.func47, Tryd.ntmps47
    go_wp2_with fail
    refine (rat_ok a b S W xs u li w H.out).mono ?_
    rintro e w2 ⟨rfl, rfl⟩
    rw [HH.out]
    go_wp2_with fail
    go_ret
    exact ⟨rfl, (Chg.refl _ _).putRow _ _ _ (.inl (by simp)), H.out.putSlot HY.out sltZ HG.out⟩
  · rw [show dropXs xs li = xs by unfold dropXs; rw [e2, set_none], show dropVal xs li = false by unfold dropVal; rw [e2]; simp]
    have HH := Lib.hid e1
    clear h e1 e2 e3 HG
    go_enter Tryd.func47, Tryd.ntmps47
    go_wp2_with fail
    refine (rat_ok a b S W xs u li w H.out).mono ?_
    rintro e w2 ⟨rfl, rfl⟩
    rw [HH.out]
    go_wp2_with fail
    go_ret
    exact RArrTo.same H.out (Chg.refl _ _) _

/-! ### Told -/
/-- Slots that were told. -/
def SlotsTold (w0 : World) (ys : List Slt) (e : Ending) (w' : World) : Prop := ∃ A c, e = .returned (.slice A ys.length c) ∧ Sl w' 11 A ys.length (cat Slt.enc ys) ∧ Chg [] w0 w'
theorem slt_slice (w : World) (s : Slt) (t : TypeId) : Sl (w.alloc (.cells (slc s) t)) 11 (some ⟨w.heap.size, 0, none⟩) 1 (cat Slt.enc [s]) :=
  ⟨by rw [cat_length Slt.len]; rfl, .inr ⟨w.heap.size, 0, slc s, t, (0, 0), rfl, by simp, by rw [cat_one]; simp [slc, Slt.len, List.take_of_length_le]⟩⟩
theorem aslots_nil (w : World) : Calls Tryd.prog 53 #[.pointer none] w fun e w' => e = .returned (.slice none 0 0) ∧ w = w' := by
  go_enter Tryd.func53, Tryd.ntmps53
  go_wp2
  go_ret
  exact ⟨rfl, rfl⟩
theorem live_succ {xs : List Slt} {k : Nat} {y : Slt} (h : xs[k]? = some y) (hs : y.st ≠ 0) : live (xs.take k) ++ [y] = live (xs.take (k + 1)) := by rw [live_take h, if_neg hs]
theorem live_skip {xs : List Slt} {k : Nat} {y : Slt} (h : xs[k]? = some y) (hs : y.st = 0) : live (xs.take k) = live (xs.take (k + 1)) := by rw [live_take h, if_pos hs, List.append_nil]
theorem live_take_le (xs : List Slt) (k : Nat) : (live (xs.take k)).length ≤ k := Nat.le_trans (live_le _) (by rw [List.length_take]; exact Nat.min_le_left _ _)
theorem aslots_ok (a b S W : Nat) (xs : List Slt) (u : Int) (w : World) (h : Arr w a b S W xs u) :
    Calls Tryd.prog 53 #[.pointer (some ⟨a, 0, none⟩)] w (SlotsTold w (live xs)) := by
  have ha := h.1
  have HB := Lib.hid h.2.1
  have h64 := h.2.2.2.len64
  have HOA := Lib.hid h.olda
  obtain ⟨n, hn⟩ : ∃ n, xs.length = n := ⟨_, rfl⟩
  have HN := Lib.hid hn
  rw [hn] at ha h64
  have g2 : (n : Int) ≤ 64 := by omega
  clear h hn
  go_enter Tryd.func53, Tryd.ntmps53
  go_wp2_with fail
  go_loopw [13, 3] (fun i s3 wr => ∃ (k be cap : Nat) (A : Option Addr), k ≤ n ∧ i = .int .i64 k ∧ s3 = .slice A (live (xs.take k)).length cap ∧ Chg [] w wr ∧ Vec 11 72 Slt.enc wr a be A cap (live (xs.take k)) ∧ (be = a ∨ w.heap.size ≤ be)) (fun i _ _ => n - (intOf i).toNat)
  case atStart => exact ⟨0, a, 0, none, by omega, rfl, rfl, Chg.refl _ _, Vec.nil _ _ _ _ _, .inl rfl⟩
  case round =>
    obtain ⟨k, be, cap, A, hk, rfl, rfl, hc, hv, hbe⟩ := hrel
    have HC := Lib.hid hc
    have HV := Lib.hid hv
    have HE := Lib.hid hbe
    clear hc hv hbe
    by_cases hlt : k < n
    · obtain ⟨y, hy⟩ : ∃ y, xs[k]? = some y := ⟨xs[k]'(by rw [HN.out]; exact hlt), List.getElem?_eq_getElem _⟩
      have hb := HC.out.keep HB.out (by simp)
      have ob := old hb
      have r1 := slt_row hy [] 72 (0, 0)
      have r2 := slt_rowIn hy [] 72 (0, 0)
      have g1 : (k : Int) < (n : Int) := by omega
      have g0 : (0 : Int) ≤ (k : Int) := by omega
      have HY := Lib.hid hy
      have HLE := Lib.hid (live_take_le xs k)
      clear hy
      by_cases hs : y.st = 0
      · have t1 : (y.st != 0) = false := by simp [hs]
        have HP := Lib.hid (live_skip HY.out hs)
        go_wp2_with fail
        go_roundw
        case rel =>
          rw [HP.out]
          refine ⟨k + 1, be, cap, A, by omega, by go_num, rfl, HC.out.alloc _, ?_, HE.out⟩
          rw [← HP.out]
          exact HV.out.keep ((Chg.refl [] wr).alloc _) (by simp)
        case measure => simp [intOf]; omega
      · have t1 : (y.st != 0) = true := by simp [hs]
        have HP := Lib.hid (live_succ HY.out hs)
        have c1 := (Chg.refl [] wr).alloc (.cells (slc y) 72)
        have hx1 : (wr.alloc (.cells (slc y) 72)).heap[wr.heap.size]? = some (.cells (slc y) 72 (0, 0)) := by simp
        have e1 : (wr.alloc (.cells (slc y) 72)).heap.size = wr.heap.size + 1 := by simp
        obtain ⟨be', cap', A', w2, happ, hv2, hbe2, hc2⟩ := Vec.acc (ty := 55) eltSlot (w0 := w) (((HC.out.alloc (.cells (slc y) 72)).alloc (.cells (slc y) 72)))
          ((HV.out.keep c1 (by simp)).keep ((Chg.refl [] _).alloc (.cells (slc y) 72)) (by simp)) HE.out HOA.out (slt_slice (wr.alloc (.cells (slc y) 72)) y 72) (c := 1) rfl (by have := HLE.out; omega) (by have := HLE.out; unfold maxLen; omega)
        rw [e1] at happ
        have HV2 := Lib.hid hv2
        have HB2 := Lib.hid hbe2
        have HC2 := Lib.hid hc2
        clear hv2 hbe2 hc2 c1 e1
        go_wp2_with fail
        go_roundw
        case rel =>
          refine ⟨k + 1, be', cap', A', by omega, by go_num, ?_, HC2.out, by rw [← HP.out]; exact HV2.out, HB2.out⟩
          rw [← HP.out, List.length_append]; rfl
        case measure => simp [intOf]; omega
    · obtain rfl : k = n := by omega
      go_wp2_with fail
      go_ret
      have e1 : live (xs.take k) = live xs := by rw [← HN.out, List.take_length]
      rw [e1] at HV ⊢
      exact ⟨A, cap, rfl, HV.out.sl Slt.len, HC.out⟩
theorem rslots_ok (a b S W : Nat) (xs : List Slt) (u : Int) (w : World) (h : RArr w a b S W xs u) :
    Calls Tryd.prog 20 #[.pointer (some ⟨a, 0, none⟩)] w (SlotsTold w (live xs)) := by
  have HA := Lib.hid h.1
  have HB := Lib.hid h.2.1
  have h64 := h.2.2.2.len64
  have HOA := Lib.hid h.olda
  obtain ⟨n, hn⟩ : ∃ n, xs.length = n := ⟨_, rfl⟩
  have HN := Lib.hid hn
  rw [hn] at HA h64
  have g2 : (n : Int) ≤ 64 := by omega
  clear h hn
  go_enter Tryd.func20, Tryd.ntmps20
  go_wp2_with fail
  go_loopw [4, 3] (fun i s3 wr => ∃ (k be cap : Nat) (A : Option Addr), k ≤ n ∧ i = .int .i64 k ∧ s3 = .slice A (live (xs.take k)).length cap ∧ Chg [] w wr ∧ Vec 11 78 Slt.enc wr a be A cap (live (xs.take k)) ∧ (be = a ∨ w.heap.size ≤ be)) (fun i _ _ => n - (intOf i).toNat)
  case atStart => exact ⟨0, a, 0, none, by omega, rfl, rfl, Chg.refl _ _, Vec.nil _ _ _ _ _, .inl rfl⟩
  case round =>
    obtain ⟨k, be, cap, A, hk, rfl, rfl, hc, hv, hbe⟩ := hrel
    have HC := Lib.hid hc
    have HV := Lib.hid hv
    have HE := Lib.hid hbe
    clear hc hv hbe
    have ha := HC.out.keep HA.out (by simp)
    have hb := HC.out.keep HB.out (by simp)
    have oa := old ha
    have ob := old hb
    by_cases hlt : k < n
    · obtain ⟨y, hy⟩ : ∃ y, xs[k]? = some y := ⟨xs[k]'(by rw [HN.out]; exact hlt), List.getElem?_eq_getElem _⟩
      have r0 := slt_st hy []
      have r1 := slt_row hy [] 78 (0, 0)
      have r2 := slt_rowIn hy [] 78 (0, 0)
      have g1 : (k : Int) < (n : Int) := by omega
      have g0 : (0 : Int) ≤ (k : Int) := by omega
      have HY := Lib.hid hy
      have HLE := Lib.hid (live_take_le xs k)
      clear hy
      by_cases hs : y.st = 0
      · have t1 : (y.st != 0) = false := by simp [hs]
        have HP := Lib.hid (live_skip HY.out hs)
        go_wp2_with fail
        go_roundw
        case rel =>
          rw [HP.out]
          refine ⟨k + 1, be, cap, A, by omega, by go_num, rfl, HC.out, ?_, HE.out⟩
          rw [← HP.out]
          exact HV.out
        case measure => simp [intOf]; omega
      · have t1 : (y.st != 0) = true := by simp [hs]
        have HP := Lib.hid (live_succ HY.out hs)
        obtain ⟨be', cap', A', w2, happ, hv2, hbe2, hc2⟩ := Vec.acc (ty := 57) eltRSlot (w0 := w) (HC.out.alloc (.cells (slc y) 78))
          (HV.out.keep ((Chg.refl [] _).alloc (.cells (slc y) 78)) (by simp)) HE.out HOA.out (slt_slice wr y 78) (c := 1) rfl (by have := HLE.out; omega) (by have := HLE.out; unfold maxLen; omega)
        have HV2 := Lib.hid hv2
        have HB2 := Lib.hid hbe2
        have HC2 := Lib.hid hc2
        clear hv2 hbe2 hc2
        go_wp2_with fail
        go_roundw
        case rel =>
          refine ⟨k + 1, be', cap', A', by omega, by go_num, ?_, HC2.out, by rw [← HP.out]; exact HV2.out, HB2.out⟩
          rw [← HP.out, List.length_append]; rfl
        case measure => simp [intOf]; omega
    · obtain rfl : k = n := by omega
      go_wp2_with fail
      go_ret
      have e1 : live (xs.take k) = live xs := by rw [← HN.out, List.take_length]
      rw [e1] at HV ⊢
      exact ⟨A, cap, rfl, HV.out.sl Slt.len, HC.out⟩

/-! ### Made -/
def goodNew (s w : Int) : Prop := (s = 1 ∨ s = 2 ∨ s = 4 ∨ s = 8) ∧ 1 ≤ w ∧ w ≤ 8
instance (s w : Int) : Decidable (goodNew s w) := inferInstanceAs (Decidable (_ ∧ _))
theorem run_make_slots (w : World) (n : Nat) (hn : n ≤ 64) : mkR Tryd.prog 55 (.int .i64 n) (.int .i64 n) w = .ok (.slice (some ⟨w.heap.size, 0, none⟩) n n) (w.alloc (.cells (sq Slt.enc (List.replicate n sltZ) []) 72)) := by
  obtain ⟨i0, hi0, hz0, hz1, hz2⟩ := info_parts slot_info
  have := run_make (P := Tryd.prog) w 55 72 i0 _ Tryd.underlying55 hi0 hz0 .i64 .i64 n n (by omega) (by omega) (by rw [hz2]; omega) (by omega)
  simp only [Int.toNat_natCast, hz1] at this
  rw [← made_slots]
  exact this
theorem run_make_rslots (w : World) (n : Nat) (hn : n ≤ 64) : mkR Tryd.prog 57 (.int .i64 n) (.int .i64 n) w = .ok (.slice (some ⟨w.heap.size, 0, none⟩) n n) (w.alloc (.cells (sq Slt.enc (List.replicate n sltZ) []) 78)) := by
  obtain ⟨i0, hi0, hz0, hz1, hz2⟩ := info_parts rslot_info
  have := run_make (P := Tryd.prog) w 57 78 i0 _ Tryd.underlying57 hi0 hz0 .i64 .i64 n n (by omega) (by omega) (by rw [hz2]; omega) (by omega)
  simp only [Int.toNat_natCast, hz1] at this
  rw [← made_slots]
  exact this
theorem anew_bad (s n : Int) (w : World) (h : ¬ goodNew s n) : Calls Tryd.prog 25 #[.int .i64 s, .int .i64 n] w fun e w' => e = .returned (.tuple #[.pointer none, .int .i64 1]) ∧ w = w' := by
  by_cases hs : s = 1 ∨ s = 2 ∨ s = 4 ∨ s = 8
  · obtain ⟨S, rfl⟩ : ∃ S : Nat, s = S := ⟨s.toNat, by omega⟩
    have HS := Lib.hid (show S = 1 ∨ S = 2 ∨ S = 4 ∨ S = 8 by omega)
    by_cases h1 : n < 1
    · have t1 : decide (n < 1) = true := by simpa using h1
      clear h hs
      go_enter Tryd.func25, Tryd.ntmps25
      go_wp2_with (go_at_call 55; refine (isSets_yes S _ HS.out).mono ?_; rintro e w' ⟨rfl, rfl⟩)
      go_ret2
      exact ⟨rfl, rfl⟩
    · have t1 : decide (n < 1) = false := by simpa using h1
      have t2 : decide (8 < n) = true := by unfold goodNew at h; simp; omega
      clear h hs
      go_enter Tryd.func25, Tryd.ntmps25
      go_wp2_with (go_at_call 55; refine (isSets_yes S _ HS.out).mono ?_; rintro e w' ⟨rfl, rfl⟩)
      go_ret2
      exact ⟨rfl, rfl⟩
  · have HS := Lib.hid hs
    clear h hs
    go_enter Tryd.func25, Tryd.ntmps25
    go_wp2_with (go_at_call 55; refine (isSets_no s _ HS.out).mono ?_; rintro e w' ⟨rfl, rfl⟩)
    go_ret2
    exact ⟨rfl, rfl⟩
/-- An array that was made. -/
def MadeArr (w0 : World) (S W : Nat) (e : Ending) (w' : World) : Prop :=
  ∃ a b, e = .returned (.tuple #[.pointer (some ⟨a, 0, none⟩), .int .i64 0]) ∧ w0.heap.size ≤ a ∧ w0.heap.size ≤ b ∧ Chg [] w0 w' ∧ Arr w' a b S W (List.replicate (S * W) sltZ) 0
theorem anew_ok (S W : Nat) (w : World) (h : goodNew S W) : Calls Tryd.prog 25 #[.int .i64 S, .int .i64 W] w (MadeArr w S W) := by
  have HS := Lib.hid (show S = 1 ∨ S = 2 ∨ S = 4 ∨ S = 8 by unfold goodNew at h; omega)
  have hW1 : 1 ≤ W := by unfold goodNew at h; omega
  have hW8 : W ≤ 8 := by unfold goodNew at h; omega
  have t1 : decide ((W : Int) < 1) = false := by simp; omega
  have t2 : decide ((8 : Int) < (W : Int)) = false := by simp; omega
  have hS8 : S ≤ 8 := by have := HS.out; omega
  have h64 : S * W ≤ 64 := Nat.mul_le_mul hS8 hW8
  have HG := Lib.hid (Good.new HS.out hW1 hW8)
  obtain ⟨N, hN⟩ : ∃ N, S * W = N := ⟨_, rfl⟩
  have hN' : (S : Int) * (W : Int) = (N : Int) := by rw [← hN, Int.natCast_mul]
  rw [hN] at h64 HG
  have hmk := run_make_slots w N h64
  have g2 : (N : Int) ≤ 64 := by omega
  unfold MadeArr
  rw [hN]
  clear h hN
  go_enter Tryd.func25, Tryd.ntmps25
  go_wp2_with (go_at_call 55; refine (isSets_yes S _ HS.out).mono ?_; rintro e w' ⟨rfl, rfl⟩)
  go_ret2
  refine ⟨w.heap.size + 1, w.heap.size, rfl, by omega, by omega, ((Chg.refl [] w).alloc _).alloc _, ?_, ?_, by omega, HG.out⟩
  · simp
  · simp
theorem rnew_bad (s n : Int) (w : World) (h : ¬ goodNew s n) : Calls Tryd.prog 26 #[.int .i64 s, .int .i64 n] w fun e w' => e = .returned (.tuple #[.pointer none, .int .i64 1]) ∧ w = w' := by
  by_cases hs : s = 1 ∨ s = 2 ∨ s = 4 ∨ s = 8
  · by_cases h1 : n < 1
    · have t1 : decide (n < 1) = true := by simpa using h1
      clear h
      rcases hs with rfl | rfl | rfl | rfl
      all_goals
        go_enter Tryd.func26, Tryd.ntmps26
        go_wp2
        go_ret2
        exact ⟨rfl, rfl⟩
    · have t1 : decide (n < 1) = false := by simpa using h1
      have t2 : decide (8 < n) = true := by unfold goodNew at h; simp; omega
      clear h
      rcases hs with rfl | rfl | rfl | rfl
      all_goals
        go_enter Tryd.func26, Tryd.ntmps26
        go_wp2
        go_ret2
        exact ⟨rfl, rfl⟩
  · have t1 : (s != 1) = true := by simp; omega
    have t2 : (s != 2) = true := by simp; omega
    have t4 : (s != 4) = true := by simp; omega
    have t8 : (s != 8) = true := by simp; omega
    clear h
    go_enter Tryd.func26, Tryd.ntmps26
    go_wp2
    go_ret2
    exact ⟨rfl, rfl⟩
def MadeRArr (w0 : World) (S W N : Nat) (e : Ending) (w' : World) : Prop :=
  ∃ a b, e = .returned (.tuple #[.pointer (some ⟨a, 0, none⟩), .int .i64 0]) ∧ w0.heap.size ≤ a ∧ w0.heap.size ≤ b ∧ Chg [] w0 w' ∧ RArr w' a b S W (List.replicate N sltZ) 0
theorem rnew_N (S W N : Nat) (w : World) (h : goodNew S W) (hN : S * W = N) : Calls Tryd.prog 26 #[.int .i64 S, .int .i64 W] w (MadeRArr w S W N) := by
  have HS := Lib.hid (show S = 1 ∨ S = 2 ∨ S = 4 ∨ S = 8 by unfold goodNew at h; omega)
  have hW1 : 1 ≤ W := by unfold goodNew at h; omega
  have hW8 : W ≤ 8 := by unfold goodNew at h; omega
  have t1 : decide ((W : Int) < 1) = false := by simp; omega
  have t2 : decide ((8 : Int) < (W : Int)) = false := by simp; omega
  have hS8 : S ≤ 8 := by have := HS.out; omega
  have h64 : S * W ≤ 64 := Nat.mul_le_mul hS8 hW8
  have HG := Lib.hid (Good.new HS.out hW1 hW8)
  have hN' : (S : Int) * (W : Int) = (N : Int) := by rw [← hN, Int.natCast_mul]
  rw [hN] at h64 HG
  have hmk := run_make_rslots w N h64
  have g2 : (N : Int) ≤ 64 := by omega
  have hS := HS.out
  clear h hN
  rcases hS with rfl | rfl | rfl | rfl
  · obtain rfl : W = N := by omega
    clear hN'
    go_enter Tryd.func26, Tryd.ntmps26
    go_wp2
    go_ret2
    refine ⟨w.heap.size + 1, w.heap.size, rfl, by omega, by omega, ((Chg.refl [] w).alloc _).alloc _, ?_, ?_, by omega, HG.out⟩
    · simp
    · simp
  · have hN2 : (2 : Int) * (W : Int) = (N : Int) := by omega
    clear hN'
    go_enter Tryd.func26, Tryd.ntmps26
    go_wp2
    go_ret2
    refine ⟨w.heap.size + 1, w.heap.size, rfl, by omega, by omega, ((Chg.refl [] w).alloc _).alloc _, ?_, ?_, by omega, HG.out⟩
    · simp
    · simp
  · have hN2 : (4 : Int) * (W : Int) = (N : Int) := by omega
    clear hN'
    go_enter Tryd.func26, Tryd.ntmps26
    go_wp2
    go_ret2
    refine ⟨w.heap.size + 1, w.heap.size, rfl, by omega, by omega, ((Chg.refl [] w).alloc _).alloc _, ?_, ?_, by omega, HG.out⟩
    · simp
    · simp
  · have hN2 : (8 : Int) * (W : Int) = (N : Int) := by omega
    clear hN'
    go_enter Tryd.func26, Tryd.ntmps26
    go_wp2
    go_ret2
    refine ⟨w.heap.size + 1, w.heap.size, rfl, by omega, by omega, ((Chg.refl [] w).alloc _).alloc _, ?_, ?_, by omega, HG.out⟩
    · simp
    · simp
theorem rnew_ok (S W : Nat) (w : World) (h : goodNew S W) : Calls Tryd.prog 26 #[.int .i64 S, .int .i64 W] w (MadeRArr w S W (S * W)) := rnew_N S W _ w h rfl
end Go.Proofs.YtadeoflkppiflaaDoor
