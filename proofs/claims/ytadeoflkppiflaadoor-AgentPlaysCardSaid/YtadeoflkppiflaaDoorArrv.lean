/- Whose line may go, as the document reckons it: walked. No condition. -/
import Derived.Test.YtadeoflkppiflaaDoorArrt
namespace Go.Proofs.YtadeoflkppiflaaDoor
open Go.RowKit
set_option linter.unusedVariables false
set_option maxHeartbeats 1000000
attribute [local go_sem ↓] append_appS copy_copS clear_clrS make_mkS cell_row frozen_row loadLine storeLine loadSlot storeSlot heap_drew heap_drewN heap_alloc heap_past heap_setCell heap_putRow vs_get slc_st slc_li slc_us
attribute [local go_sem] rowCell_some rowFrozen_some rowHas_some rowIn_some rowPart_full rowPart_lit rowPut_full rowPut_lit rowSet_some size_putRow vs_size vs_one wideLine wideSlot run_loadS run_storeS run_appS run_copS run_clrS run_mkS loadW_at storeW_at fit_all fit_le one_int one_bool one_pointer one_slice allOne_list putRow_new ne_size1 ne_size2 ne_size3 ne_size4 zero8_length line_eq lit8 slc_size slc_one slc_part slc_in fold_slt fold_slc slc_set_us
attribute [local simp ↓] heap_drew heap_drewN heap_alloc heap_past heap_setCell heap_putRow
attribute [local simp] rowCell_some rowFrozen_some rowHas_some rowIn_some rowPart_full rowPart_lit rowPut_full rowPut_lit rowSet_some size_putRow vs_size fit_all putRow_new ne_size1 ne_size2 ne_size3 ne_size4 zero8_length slc_size


attribute [local go_sem ↓] loadRSlot storeRSlot
attribute [local go_sem] wideRSlot
/-! ### Whose line may go, as the document reckons it -/
theorem rrest_at (s : Int) (b : Bool) (w : World) (h : atRest s = b) : Calls Tryd.prog 72 #[.int .i64 s] w fun e w' => e = .returned (.bool b) ∧ w = w' := by
  subst h; exact rrest_ok s w
/-- The best so far, by its place. -/
def BestAt (xs : List Slt) (p : Int × Int) (best : Int) : Prop := (best = -1 ∧ p = (-1, 0)) ∨ ∃ (j : Nat) (y : Slt), best = (j : Int) ∧ xs[j]? = some y ∧ p = (y.li, y.us) ∧ 0 ≤ y.li
theorem rvictim_ok (a b S W : Nat) (xs : List Slt) (u li : Int) (w : World) (h : RArr w a b S W xs u) (h0 : 0 ≤ li) :
    Calls Tryd.prog 62 #[.pointer (some ⟨a, 0, none⟩), .int .i64 li] w fun e w' => e = .returned (.int .i64 (eld (seg W xs (setOf S li)))) ∧ Chg [] w w' := by
  have H := Lib.hid h
  have HA := Lib.hid h.1
  have HB := Lib.hid h.2.1
  have hg := h.2.2.2
  have hf := hg.fit li
  have hl := hg.len
  have h64 := hg.len64
  have hw8 := hg.way8
  have HHOME := Lib.hid hg.home
  obtain ⟨f, hfe⟩ : ∃ f, setOf S li * W = f := ⟨_, rfl⟩
  have HS := Lib.hid (hg.seg_len li)
  obtain ⟨ys, hys⟩ : ∃ ys, seg W xs (setOf S li) = ys := ⟨_, rfl⟩
  have HGET := Lib.hid (show ∀ k, k < W → ys[k]? = xs[f + k]? by intro k hk; rw [← hys, seg_get _ _ _ hk, hfe])
  have HF := Lib.hid hfe
  rw [hys] at HS ⊢
  rw [hfe] at hf
  rw [← hl] at hf
  have HX := Lib.hid hf
  obtain ⟨N, hN⟩ : ∃ N, xs.length = N := ⟨_, rfl⟩
  have HNN := Lib.hid hN
  rw [hN] at hf h64 HA
  have g1 : (f : Int) + (W : Int) ≤ (N : Int) := by omega
  have g2 : (N : Int) ≤ 64 := by omega
  have g4 : (0 : Int) ≤ (f : Int) := by omega
  clear hfe hl hN hg h hys
  go_enter Tryd.func62, Tryd.ntmps62
  go_wp2_with fail
  refine (rfirst_f a b S W xs u li f w H.out h0 HF.out).mono ?_
  rintro e w1 ⟨rfl, m, rfl⟩
  go_wp2_with fail
  go_loopw [6, 5] (fun i s5 wr => ∃ (k : Nat) (best : Int), k ≤ W ∧ i = .int .i64 ((f + k : Nat) : Int) ∧ s5 = .int .i64 best ∧ Chg [] w wr ∧ BestAt xs (eldS (ys.take k)) best) (fun i _ _ => f + W - (intOf i).toNat)
  case atStart => exact ⟨0, -1, by omega, rfl, rfl, (Chg.refl _ _).drewN _, .inl ⟨rfl, rfl⟩⟩
  case round =>
    obtain ⟨k, best, hk, rfl, rfl, hc, hbest⟩ := hrel
    have HC := Lib.hid hc
    have HBE := Lib.hid hbest
    have ha1 := hc.keep HA.out (by simp)
    have hb1 := hc.keep HB.out (by simp)
    have oa1 := old ha1
    have ob1 := old hb1
    clear hc hbest
    have g0 : (0 : Int) ≤ ((f + k : Nat) : Int) := by omega
    by_cases hlt : k < W
    · have g3 : ((f + k : Nat) : Int) < (N : Int) := by omega
      have g5 : ((f + k : Nat) : Int) < (f : Int) + (W : Int) := by omega
      have g6 : (f : Int) + (k : Int) < (N : Int) := by omega
      have g7 : (0 : Int) ≤ (f : Int) + (k : Int) := by omega
      have g8 : ((f : Int) + (k : Int)).toNat = f + k := by omega
      obtain ⟨y, hy⟩ : ∃ y, xs[f + k]? = some y := ⟨xs[f + k]'(by have := HX.out; omega), List.getElem?_eq_getElem _⟩
      have r1 := slt_st hy []
      have r3 := slt_us hy []
      have HY := Lib.hid (show ys[k]? = some y by rw [HGET.out k hlt, hy])
      have HXY := Lib.hid hy
      have HST := Lib.hid (eldS_take HY.out)
      have HLI := Lib.hid (HHOME.out _ y hy)
      clear hy
      go_wp2_with fail
      go_quiet (first | (go_at_call 71; exact Calls.quiet_of (rfirst_f a b S W xs u li f _ (H.out.keep (HC.out.drewN _) (by simp) (by simp)) h0 HF.out)))
      have HCQ := Lib.hid (HC.out.drewN nq)
      have ha2 : (wr.drewN nq).heap[a]? = _ := HCQ.out.keep HA.out (by simp)
      have hb2 : (wr.drewN nq).heap[b]? = _ := HCQ.out.keep HB.out (by simp)
      clear ha1 hb1 oa1 ob1
      generalize wr.drewN nq = wq at HCQ ha2 hb2 ⊢
      by_cases hr : atRest y.st = true
      · have HPOS := Lib.hid (show 0 ≤ y.li from (HLI.out (by intro e; rw [e] at hr; cases hr)).1)
        rcases HBE.out with ⟨rfl, hp⟩ | ⟨j, z, rfl, hz, hp, hz0⟩
        · have HP := Lib.hid (show eldS (ys.take (k + 1)) = (y.li, y.us) by rw [HST.out, hp]; unfold eldStep; rw [hr]; rfl)
          clear hp
          go_wp2_with fail
          go_quiet (first | (go_at_call 72; exact quiet_same (rrest_at y.st _ _ hr)))
          go_wp2_with fail
          go_roundw
          case rel => exact ⟨k + 1, _, by omega, by go_num, rfl, HCQ.out.drewN _, .inr ⟨f + k, y, by go_num, HXY.out, HP.out, HPOS.out⟩⟩
          case measure => simp [intOf]; omega
        · have j1 : (j : Int) < (N : Int) := by have := (List.getElem?_eq_some_iff.1 hz).1; have := HNN.out; omega
          have j0 : (0 : Int) ≤ (j : Int) := by omega
          have z3 := slt_us hz []
          have tb : decide ((j : Int) < 0) = false := by simp
          have HZ := Lib.hid hz
          by_cases hu : y.us < z.us
          · have HP := Lib.hid (show eldS (ys.take (k + 1)) = (y.li, y.us) by rw [HST.out, hp]; unfold eldStep; rw [hr, if_pos (by simp [hu])])
            have tu : decide (y.us < z.us) = true := by simpa using hu
            clear hp hz
            go_wp2_with fail
            go_quiet (first | (go_at_call 72; exact quiet_same (rrest_at y.st _ _ hr)))
            go_wp2_with fail
            go_roundw
            case rel => exact ⟨k + 1, _, by omega, by go_num, rfl, HCQ.out.drewN _, .inr ⟨f + k, y, by go_num, HXY.out, HP.out, HPOS.out⟩⟩
            case measure => simp [intOf]; omega
          · have HP := Lib.hid (show eldS (ys.take (k + 1)) = (z.li, z.us) by rw [HST.out, hp]; unfold eldStep; rw [hr, if_neg (by simp; omega)])
            have tu : decide (y.us < z.us) = false := by simpa using hu
            clear hp hz
            go_wp2_with fail
            go_quiet (first | (go_at_call 72; exact quiet_same (rrest_at y.st _ _ hr)))
            go_wp2_with fail
            go_roundw
            case rel => exact ⟨k + 1, _, by omega, by go_num, rfl, HCQ.out.drewN _, .inr ⟨j, z, rfl, HZ.out, HP.out, hz0⟩⟩
            case measure => simp [intOf]; omega
      · have hr : atRest y.st = false := by simpa using hr
        have HP := Lib.hid (show BestAt xs (eldS (ys.take (k + 1))) best by rw [HST.out]; unfold eldStep; rw [hr]; exact HBE.out)
        go_wp2_with fail
        go_quiet (first | (go_at_call 72; exact quiet_same (rrest_at y.st _ _ hr)))
        go_wp2_with fail
        go_roundw
        case rel => exact ⟨k + 1, best, by omega, by go_num, rfl, HCQ.out.drewN _, HP.out⟩
        case measure => simp [intOf]; omega
    · obtain rfl : k = W := by omega
      have HALL := Lib.hid (show ys.take k = ys by rw [← HS.out, List.take_length])
      go_wp2_with fail
      go_quiet (first | (go_at_call 71; exact Calls.quiet_of (rfirst_f a b S k xs u li f _ (H.out.keep (HC.out.drewN _) (by simp) (by simp)) h0 HF.out)))
      rcases HBE.out with ⟨rfl, hp⟩ | ⟨j, z, rfl, hz, hp, hz0⟩
      · have HP := Lib.hid hp
        clear hp
        go_wp2_with fail
        go_ret
        exact ⟨by unfold eld; rw [← HALL.out, HP.out]; rfl, HC.out.drewN _⟩
      · have j1 : (j : Int) < (N : Int) := by have := (List.getElem?_eq_some_iff.1 hz).1; have := HNN.out; omega
        have j0 : (0 : Int) ≤ (j : Int) := by omega
        have z3 := slt_li hz []
        have tb : decide ((j : Int) < 0) = false := by simp
        have HP := Lib.hid hp
        clear hp hz
        go_wp2_with fail
        go_ret
        exact ⟨by unfold eld; rw [← HALL.out, HP.out]; rfl, HC.out.drewN _⟩
end Go.Proofs.YtadeoflkppiflaaDoor
