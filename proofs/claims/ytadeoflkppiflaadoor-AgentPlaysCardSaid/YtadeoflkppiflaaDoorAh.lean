/- Ah: walked. No condition. -/
import Derived.Test.YtadeoflkppiflaaDoorAgf
import Derived.Test.YtadeoflkppiflaaDoorAgm
import Derived.Test.YtadeoflkppiflaaDoorArrw
import Derived.Test.YtadeoflkppiflaaDoorMsgr
import Derived.BigQuiet
import Derived.Deep.RegionWith
import Derived.Deep.RegionHeld3
import Derived.Deep.QuietTactic
import Derived.Deep.Cut
import Derived.Deep.CutBlock
import Derived.Deep.CutRange
import Derived.Deep.DeepCutAuto
namespace Go.Proofs.YtadeoflkppiflaaDoor
open Go.RowKit
set_option linter.unusedVariables false
set_option maxHeartbeats 1000000
attribute [local go_sem ↓] append_appS copy_copS clear_clrS make_mkS cell_row frozen_row loadLine storeLine loadSlot storeSlot heap_drew heap_drewN heap_alloc heap_past heap_setCell heap_putRow vs_get slc_st slc_li slc_us slice_slS loadMsg storeMsg loadHas storeHas msc_kd msc_li msc_di msc_ke
attribute [local go_sem] rowCell_some rowFrozen_some rowHas_some rowIn_some rowPart_full rowPart_lit rowPut_full rowPut_lit rowSet_some size_putRow vs_size vs_one wideLine wideSlot run_loadS run_storeS run_appS run_copS run_clrS run_mkS loadW_at storeW_at fit_all fit_le one_int one_bool one_pointer one_slice allOne_list putRow_new ne_size1 ne_size2 ne_size3 ne_size4 zero8_length line_eq lit8 slc_size slc_one slc_part slc_in fold_slt fold_slc slc_set_us wideMsg wideHas run_slS msc_size msc_one msc_part msc_in fold_msc msc_putDi msc_putKe msc_putX msc_has ms4_lit ms4_k ms4_l ms4_e
attribute [local simp ↓] heap_drew heap_drewN heap_alloc heap_past heap_setCell heap_putRow
attribute [local simp] rowCell_some rowFrozen_some rowHas_some rowIn_some rowPart_full rowPart_lit rowPut_full rowPut_lit rowSet_some size_putRow vs_size fit_all putRow_new ne_size1 ne_size2 ne_size3 ne_size4 zero8_length slc_size msc_size msc_putDi msc_putKe msc_putX msc_has fit_le ms4_k ms4_l ms4_e


/-! ### The document's agent -/
def RAg (w : World) (g a b S N : Nat) (s : Sta) : Prop :=
  RArr w a b S N s.1 s.2 ∧ w.heap[g]? = some (.cells #[.pointer (some ⟨a, 0, none⟩)] 60 (0, 0)) ∧ g ∉ [a, b] ∧ Sane s.1 ∧ 0 ≤ s.2
section
variable {w w' : World} {g a b S N : Nat} {s s' : Sta} (h : RAg w g a b S N s)
include h
theorem RAg.keep (hc : Chg [] w w') : RAg w' g a b S N s := ⟨h.1.keep hc (by simp) (by simp), hc.keep h.2.1 (by simp), h.2.2⟩
theorem RAg.arr : RArr w a b S N s.1 s.2 := h.1
theorem RAg.good : Good S N s.1 := h.1.2.2.2
theorem RAg.sane : Sane s.1 := h.2.2.2.1
theorem RAg.pos : 0 ≤ s.2 := h.2.2.2.2
theorem RAg.new2 {k : Nat} (hk : w.heap.size ≤ k) : k ∉ [a, b] := by
  have h1 := lt_heap h.1.1
  have h2 := lt_heap h.1.2.1
  simp; omega
theorem RAg.old2 : ∀ x ∈ [a, b], x < w.heap.size := by
  have h1 := lt_heap h.1.1
  have h2 := lt_heap h.1.2.1
  intro x hx
  simp at hx
  rcases hx with rfl | rfl <;> assumption
theorem RAg.step (hs : RArr w' a b S N s'.1 s'.2) (hc : Chg [a, b] w w') (h1 : Sane s'.1) (h2 : 0 ≤ s'.2) : RAg w' g a b S N s' :=
  ⟨hs, hc.keep h.2.1 h.2.2.1, h.2.2.1, h1, h2⟩
end
def RgRet (w : World) (g a b S N : Nat) (s : Sta) (f : Value → Value) (ms : List Ms) : Ending → World → Prop := fun e w' =>
  ∃ A n, e = .returned (f (.slice A ms.length n)) ∧ Told w w' A ms ∧ RAg w' g a b S N s ∧ Chg [a, b] w w'
theorem RAg.calls {w : World} {g a b S N : Nat} {s s' : Sta} (h : RAg w g a b S N s) {v : Value} {f : FuncId} {args : Array Value} (h1 : Sane s'.1) (h2 : 0 ≤ s'.2)
    (hc : Calls Tryd.prog f args w (RArrTo w a b S N s'.1 s'.2 v)) : Calls Tryd.prog f args w fun e w' => e = .returned v ∧ RAg w' g a b S N s' ∧ Chg [a, b] w w' :=
  hc.mono fun e w' ⟨he, hc, hs⟩ => ⟨he, h.step hs hc h1 h2, hc⟩
section
variable {w : World} {g a b S N : Nat} {s : Sta} (h : RAg w g a b S N s)
include h
theorem hset_any (hu : s.2 ≤ 1000000000) (li st : Int) (l : List Int) (hl : l.length = 8) : Calls Tryd.prog 39 #[.pointer (some ⟨a, 0, none⟩), .int .i64 li, .int .i64 st, .agg (vs l)] w
    fun e w' => e = .returned (.int .i64 (setVal S N s.1 li st)) ∧ RAg w' g a b S N (setS S N s li st l hl) ∧ Chg [a, b] w w' :=
  h.calls (h.sane.set li st l hl) (Int.le_trans h.pos setS_u.1) (rsetl_any a b S N s.1 s.2 li st l hl w h.arr h.pos hu)
theorem hsetz_any (hu : s.2 ≤ 1000000000) (li st : Int) : Calls Tryd.prog 39 #[.pointer (some ⟨a, 0, none⟩), .int .i64 li, .int .i64 st, .agg #[.int .u64 0, .int .u64 0, .int .u64 0, .int .u64 0, .int .u64 0, .int .u64 0, .int .u64 0, .int .u64 0]] w
    fun e w' => e = .returned (.int .i64 (setVal S N s.1 li st)) ∧ RAg w' g a b S N (setS S N s li st zl8 rfl) ∧ Chg [a, b] w w' := hset_any h hu li st zl8 rfl
theorem htouch_any (hu : s.2 ≤ 1000000000) (li : Int) : Calls Tryd.prog 35 #[.pointer (some ⟨a, 0, none⟩), .int .i64 li] w
    fun e w' => e = .returned (.tuple #[]) ∧ RAg w' g a b S N (touchS s li) ∧ Chg [a, b] w w' :=
  h.calls (h.sane.touch li) (Int.le_trans h.pos touchS_u.1) (rtouch_any a b S N s.1 s.2 li w h.arr h.pos hu)
theorem hdrop_any (li : Int) : Calls Tryd.prog 47 #[.pointer (some ⟨a, 0, none⟩), .int .i64 li] w
    fun e w' => e = .returned (.bool (dropVal s.1 li)) ∧ RAg w' g a b S N (dropS s li) ∧ Chg [a, b] w w' :=
  h.calls (h.sane.drop li) (Int.le_trans h.pos dropS_u.1) (rdrop_any a b S N s.1 s.2 li w h.arr)
end
attribute [local go_sem ↓] loadRSlot storeRSlot
attribute [local go_sem] wideRSlot

theorem eight8 {l : List Int} (h : l.length = 8) : ∃ a0 a1 a2 a3 a4 a5 a6 a7, l = [a0, a1, a2, a3, a4, a5, a6, a7] := by
  match l, h with
  | [a0, a1, a2, a3, a4, a5, a6, a7], _ => exact ⟨a0, a1, a2, a3, a4, a5, a6, a7, rfl⟩
theorem field_st (x : Slt) (W : World) : (Instr.field 78 (.agg (slc x)) 0).run Tryd.prog W = .ok (.int .i64 x.st) W := by
  obtain ⟨st, li, l, us, h⟩ := x
  obtain ⟨a0, a1, a2, a3, a4, a5, a6, a7, rfl⟩ := eight8 h
  first | kernel_rfl | rfl
theorem field_ln (x : Slt) (W : World) : (Instr.field 78 (.agg (slc x)) 2).run Tryd.prog W = .ok (.agg (vs x.l)) W := by
  obtain ⟨st, li, l, us, h⟩ := x
  obtain ⟨a0, a1, a2, a3, a4, a5, a6, a7, rfl⟩ := eight8 h
  first | kernel_rfl | rfl
attribute [local go_sem ↓] field_st field_ln

theorem results_rs1 {fn : Func} {p : Tmp} (h : fn.results = #[.cell p 78]) (tmps : Array Value) (w : World) (b : Nat) (x : Slt) (fr : Nat × Nat)
    (hp : tmps.getD p undef = .pointer (some ⟨b, 0, none⟩)) (hb : w.heap[b]? = some (.cells (slc x) 78 fr)) :
    (results fn tmps).run Tryd.prog w = .ok (.agg (slc x)) w := by
  have hp' : tmps[p]?.getD undef = .pointer (some ⟨b, 0, none⟩) := by simpa using hp
  have := run_loadVar_row (P := Tryd.prog) w b 78 78 (slc x) fr _ hb Tryd.underlying78 rfl (by rw [slc_size]; kernel_rfl)
  simp [results, h, hp', asAddr, this]
theorem there_eq (li k : Int) : (isLn li && isWd k) = (((decide (0 ≤ li) && decide (li ≤ 63)) && decide (0 ≤ k)) && decide (k ≤ 7)) := by
  unfold isLn isWd
  rw [Bool.eq_iff_iff]
  simp
  omega
theorem hthere_any (li k : Int) (w : World) : Calls Tryd.prog 33 #[.int .i64 li, .int .i64 k] w fun e w' => e = .returned (.bool (isLn li && isWd k)) ∧ w = w' := by
  cases t1 : decide (0 ≤ li) <;> cases t2 : decide (li ≤ 63) <;> cases t3 : decide (0 ≤ k)
  all_goals
    go_enter Tryd.func33, Tryd.ntmps33
    try dsimp only [List.append]
    go_wp2_with fail
    go_ret
    exact ⟨by rw [there_eq]; simp [t1, t2, t3], rfl⟩
theorem hslot_any {g a b S N : Nat} {s : Sta} (li : Int) (w : World) (h : RAg w g a b S N s) : Calls Tryd.prog 34 #[.pointer (some ⟨g, 0, none⟩), .int .i64 li] w fun e w' => e = .returned (.agg (slc (findVal s.1 li))) ∧ Chg [] w w' := by
  have H := Lib.hid h
  have rG := h.2.1
  clear h
  have ha := H.out.arr.1
  have hb := H.out.arr.2.1
  have h64 := H.out.good.len64
  rcases hit_or (pLine li) s.1 with ⟨k, y, e1, e2, e3, e4, e5, e6⟩ | ⟨e1, e2, e3⟩
  · have hv : findVal s.1 li = y := by unfold findVal; rw [e2, e3]
    rw [hv]
    have hat := rat_ok a b S N s.1 s.2 li
    rw [e1] at hat
    have r1 := slt_row e3 [] 78 (0, 0)
    have r2 := slt_rowIn e3 [] 78 (0, 0)
    have g0 : (0 : Int) ≤ (k : Int) := by omega
    have g1 : (k : Int) < (s.1.length : Int) := by omega
    have g2 : (s.1.length : Int) ≤ 64 := by omega
    clear e1 e2 e3 e4 e6 hv
    go_enter Tryd.func34, Tryd.ntmps34
    try dsimp only [List.append]
    go_wp2_with fail
    refine (hat _ (H.out.arr.keep ((Chg.refl [] w).alloc _) (by simp) (by simp))).mono ?_
    rintro e w' ⟨rfl, rfl⟩
    go_wp2_with fail
    refine bodyPost_ret (results_rs1 (by rfl) _ _ (w.heap.size) y (0, 0) (by rfl) (by simp; try rfl)) (by rfl) ?_
    exact ⟨rfl, by (repeat' (first | with_reducible exact Chg.refl _ _ | with_reducible assumption | with_reducible refine Chg.drew ?_ | with_reducible refine Chg.drewN ?_ _ | with_reducible refine Chg.alloc ?_ _ | with_reducible refine Chg.putRow ?_ _ _ _ (.inr ?_) | with_reducible refine Chg.setCell ?_ _ _ _ (.inr ?_)  | (show _ ≤ _; first | exact Nat.le_refl _ | omega | (simp; done))))⟩
  · have hv : findVal s.1 li = sltZ := by unfold findVal; rw [e2, List.getElem?_eq_none (Nat.le_refl _)]
    rw [hv]
    have hat := rat_ok a b S N s.1 s.2 li
    rw [e1] at hat
    clear e1 e2 e3 hv
    go_enter Tryd.func34, Tryd.ntmps34
    try dsimp only [List.append]
    go_wp2_with fail
    refine (hat _ (H.out.arr.keep ((Chg.refl [] w).alloc _) (by simp) (by simp))).mono ?_
    rintro e w' ⟨rfl, rfl⟩
    go_wp2_with fail
    refine bodyPost_ret (results_rs1 (by rfl) _ _ (w.heap.size) sltZ (0, 0) (by rfl) (by simp; try rfl)) (by rfl) ?_
    exact ⟨rfl, by (repeat' (first | with_reducible exact Chg.refl _ _ | with_reducible assumption | with_reducible refine Chg.drew ?_ | with_reducible refine Chg.drewN ?_ _ | with_reducible refine Chg.alloc ?_ _ | with_reducible refine Chg.putRow ?_ _ _ _ (.inr ?_) | with_reducible refine Chg.setCell ?_ _ _ _ (.inr ?_)  | (show _ ≤ _; first | exact Nat.le_refl _ | omega | (simp; done))))⟩
theorem howns_any {g a b S N : Nat} {s : Sta} (li : Int) (w : World) (h : RAg w g a b S N s) : Calls Tryd.prog 24 #[.pointer (some ⟨g, 0, none⟩), .int .i64 li] w fun e w' => e = .returned (.bool (ownsB s.1 li)) ∧ Chg [] w w' := by
  have H := Lib.hid h
  have rG := h.2.1
  clear h
  have hf := hslot_any li w H.out
  unfold ownsB mayWr
  generalize findVal s.1 li = x at hf
  cases t1 : (x.st == 2)
  all_goals
    go_enter Tryd.func24, Tryd.ntmps24
    try dsimp only [List.append]
    go_wp2_with fail
    refine hf.mono ?_
    rintro e w2 ⟨rfl, c2⟩
    go_wp2_with fail
    go_ret
    exact ⟨by first | simp | simp [t1], c2⟩
theorem howns_at {g a b S N : Nat} {s : Sta} (li : Int) (v : Bool) (hv : ownsB s.1 li = v) (w : World) (h : RAg w g a b S N s) : Calls Tryd.prog 24 #[.pointer (some ⟨g, 0, none⟩), .int .i64 li] w fun e w' => e = .returned (.bool v) ∧ Chg [] w w' := hv ▸ howns_any li w h
theorem hone_any (kd li : Int) (w : World) : Calls Tryd.prog 52 #[.int .i64 kd, .int .i64 li] w (MsTo w [ms4 kd li false false]) := by
  go_enter Tryd.func52, Tryd.ntmps52
  try dsimp only [List.append]
  go_wp2_with fail
  go_ret
  exact MsTo.one (Chg.refl [] w) _
theorem hidle_any {g a b S N : Nat} {s : Sta}  (w : World) (h : RAg w g a b S N s) : Calls Tryd.prog 22 #[.pointer (some ⟨g, 0, none⟩)] w fun e w' => e = .returned (.bool (idleB s.1)) ∧ Chg [] w w' := by
  have H := Lib.hid h
  have rG := h.2.1
  clear h
  have ha := H.out.arr.1
  have hb := H.out.arr.2.1
  have h64 := H.out.good.len64
  have HS := Lib.hid H.out.sane
  obtain ⟨ys, hys⟩ : ∃ ys, ys = s.1 := ⟨_, rfl⟩
  rw [← hys] at ha hb h64 HS ⊢
  obtain ⟨n, hn⟩ : ∃ n, n = ys.length := ⟨_, rfl⟩
  rw [← hn] at ha h64
  have HN := Lib.hid hn
  have HA := Lib.hid ha
  have HB := Lib.hid hb
  have HG := Lib.hid rG
  clear hys hn ha hb rG
  go_enter Tryd.func22, Tryd.ntmps22
  try dsimp only [List.append]
  go_wp2_with fail
  go_loopw [3] (fun i wr => ∃ k : Nat, k ≤ n ∧ i = .int .i64 k ∧ Chg [] w wr ∧ ∀ x ∈ ys.take k, restB x = true) (fun i _ => n - (intOf i).toNat)
  case atStart => exact ⟨0, by omega, rfl, Chg.refl _ _, by simp⟩
  case round =>
    obtain ⟨k, hk, rfl, hc, hall⟩ := hrel
    have ha := hc.keep HA.out (by simp)
    have hb := hc.keep HB.out (by simp)
    have rG := hc.keep HG.out (by simp)
    by_cases hlt : k < n
    · obtain ⟨y, hy⟩ : ∃ y, ys[k]? = some y := ⟨ys[k]'(by rw [← HN.out]; exact hlt), List.getElem?_eq_getElem _⟩
      have hst := slt_st hy []
      have g1 : (k : Int) < (n : Int) := by omega
      have g0 : (0 : Int) ≤ (k : Int) := by omega
      have g2 : (n : Int) ≤ 64 := by omega
      have hry := rest_le (x := y) (HS.out y (List.mem_of_getElem? hy)).1
      have HAL := Lib.hid hall
      have HK := Lib.hid hc
      have ht := List.take_succ_eq_append_getElem (by rw [← HN.out]; exact hlt : k < ys.length)
      rw [show ys[k]'(by rw [← HN.out]; exact hlt) = y from (List.getElem?_eq_some_iff.1 hy).2] at ht
      have HT := Lib.hid ht
      have HY := Lib.hid hy
      have HR := Lib.hid hry
      clear hall hc ht hy hry
      cases hr : decide (3 < y.st)
      · go_wp2_with fail
        go_roundw
        case rel =>
          refine ⟨k + 1, by omega, by go_num, HK.out, ?_⟩
          rw [HT.out]
          intro x hx
          rcases List.mem_append.1 hx with h1 | h1
          · exact HAL.out x h1
          · rw [List.mem_singleton.1 h1, HR.out]; simp at hr ⊢; omega
        case measure => simp [intOf]; omega
      · go_wp2_with fail
        go_ret
        refine ⟨?_, HK.out⟩
        have : idleB ys = false := by
          unfold idleB
          rw [List.all_eq_false]
          exact ⟨y, List.mem_of_getElem? HY.out, by rw [HR.out]; simp at hr ⊢; omega⟩
        rw [this]
        rfl
    · obtain rfl : k = n := by omega
      have HAL := Lib.hid hall
      have HK := Lib.hid hc
      clear hall hc
      go_wp2_with fail
      go_ret
      refine ⟨?_, HK.out⟩
      have : idleB ys = true := by
        unfold idleB
        rw [List.all_eq_true]
        intro x hx
        exact HAL.out x (by rw [HN.out, List.take_length]; exact hx)
      rw [this]
      rfl
theorem hidle_at {g a b S N : Nat} {s : Sta} (v : Bool) (hv : idleB s.1 = v) (w : World) (h : RAg w g a b S N s) : Calls Tryd.prog 22 #[.pointer (some ⟨g, 0, none⟩)] w fun e w' => e = .returned (.bool v) ∧ Chg [] w w' := hv ▸ hidle_any w h
end Go.Proofs.YtadeoflkppiflaaDoor
