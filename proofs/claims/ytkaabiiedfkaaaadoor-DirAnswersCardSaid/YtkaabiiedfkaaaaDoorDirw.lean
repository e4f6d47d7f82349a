/- The document's Ask: walked. No condition. -/
import Derived.Test.YtkaabiiedfkaaaaDoorDirt
import Derived.BigQuiet
import Derived.Deep.RegionWith
import Derived.Deep.RegionHeld3
import Derived.Deep.QuietTactic
import Derived.Deep.Cut
import Derived.Deep.CutBlock
import Derived.Deep.CutRange
import Derived.Deep.DeepCutAuto
namespace Go.Proofs.YtkaabiiedfkaaaaDoor
open Go.RowKit
set_option linter.unusedVariables false
set_option maxHeartbeats 1000000
attribute [local go_sem ↓] append_appS copy_copS clear_clrS make_mkS slice_slS cell_row frozen_row loadLine storeLine loadMsg storeMsg heap_drew heap_drewN heap_alloc heap_past heap_setCell heap_putRow vs_get msc_kd msc_li msc_di msc_ke
attribute [local go_sem] rowCell_some rowFrozen_some rowHas_some rowIn_some rowPart_full rowPart_lit rowPut_full rowPut_lit rowSet_some size_putRow vs_size vs_one wideLine wideMsg run_loadS run_storeS run_appS run_copS run_clrS run_mkS run_slS loadW_at storeW_at fit_all fit_le one_int one_bool one_pointer one_slice allOne_list putRow_new ne_size1 ne_size2 ne_size3 ne_size4 zero8_length line_eq lit8 msc_size msc_one msc_part msc_in fold_msc
attribute [local simp ↓] heap_drew heap_drewN heap_alloc heap_past heap_setCell heap_putRow
attribute [local simp] rowCell_some rowFrozen_some rowHas_some rowIn_some rowPart_full rowPart_lit rowPut_full rowPut_lit rowSet_some size_putRow vs_size fit_all putRow_new ne_size1 ne_size2 ne_size3 ne_size4 zero8_length msc_size
attribute [local go_sem ↓] ec_he ec_di ec_ow ec_sh ec_bu ec_by ec_wa sc_to
attribute [local go_sem] mi_and mi_or mi_not mi_beq0 mi_bne0 ec_size ec_one ec_part ec_in ec_has ec_setDi ec_setOw ec_setSh ec_setBu ec_setBy ec_setWa ec_setSh0 ec_setWa0 ec_putM sc_size sc_one sc_part sc_in
attribute [local simp] ec_size sc_size ec_setDi ec_setOw ec_setSh ec_setBu ec_setBy ec_setWa ec_setSh0 ec_setWa0 ec_putM
attribute [local go_sem ↓] loadEn storeEn loadSd storeSd en_z0
attribute [local go_sem] wideEn wideSd fold_sc size11 putRow_newB putRow_newC ms5_lit
attribute [local simp] en_z0 putRow_newB putRow_newC fit_le ec_has
attribute [local go_sem ↓] loadEnR storeEnR loadSdR storeSdR
attribute [local go_sem] wideEnR wideSdR


theorem En3r.S {w w1 wA W : World} {r : Nat} {y : En} {xs : List Sd} {n : Int} {A : Option Addr} {k : Nat} (hc : Chg [] w w1) (ho : Old w1 r) (hr : w.heap.size ≤ r) (hs : Sl wA 13 A xs.length (cat Sd.enc xs)) (hA : ∀ a, A = some a → w1.heap.size ≤ a.block)
    (hw : Chg [r] w1 wA) (h : Chg [r] wA W) : En3r w ((y, xs), n) (.returned (.tuple #[.agg (ec y), .slice A xs.length k, .int .i64 n])) W := by
  have h1 := ho.lt
  have h3 := hc.size
  exact ⟨A, k, rfl, hs.chg h (by intro a ha; have := hA a ha; simp; omega), fun a ha => Nat.le_trans h3 (hA a ha), hc.trans' (hw.trans h) (by simp [hr])⟩
theorem Old.chgL {w w' : World} {b : Nat} {l : List Nat} (h : Old w b) (hc : Chg l w w') : Old w' b := Nat.lt_of_lt_of_le h hc.size
theorem good_zero {x : En} (h : goodE x = true) (h0 : x.bu = 0) : x.by_ = 0 ∧ x.wa = 0#8 := by
  refine ⟨?_, good_idle h h0⟩
  unfold goodE at h
  split at h
  · rw [Bool.and_eq_true] at h
    have h2 := h.2
    rw [goodBu, if_pos h0] at h2
    simp at h2
    exact h2.1
  · have h2 := of_decide_eq_true h
    subst h2
    rfl
theorem good_ow {x : En} (h : goodE x = true) : x.ow = -1 ∨ (isC x.ow = true ∧ x.sh = 0#8) := by
  unfold goodE at h
  split at h
  · rw [Bool.and_eq_true] at h
    have h2 := h.1
    unfold goodOw at h2
    rw [Bool.or_eq_true, Bool.and_eq_true] at h2
    rcases h2 with h2 | h2
    · exact .inl (by simpa using h2)
    · exact .inr ⟨h2.1, by simpa using h2.2⟩
  · have h2 := of_decide_eq_true h
    subst h2
    exact .inl rfl
theorem over_own {x : En} (c : Int) (h : goodE x = true) (h0 : x.bu = 0) : overE ((x.setOw c).setSh 0#8) = (x.setOw c).setSh 0#8 := by
  obtain ⟨h1, h2⟩ := good_zero h h0
  simp [overE, En.setOw, En.setSh, En.setBu, En.setBy, En.setWa, h0, h1, h2]
theorem ge0 {n : Int} (h : isC n = true) : (decide (0 ≤ n)) = true := by simp [isC] at h ⊢; omega
set_option maxHeartbeats 4000000 in
set_option maxRecDepth 100000 in
theorem rask_S1 (x : En) (c : Int) (m : Ms) (w : World) (o00 : Old w 0) (g1 : goodE x = true) (g2 : isC c = true) (g3 : mg m = true) (g4 : asksB m.kd = true) (hb : x.bu = 0) (hh : x.he = true) (h1 : isC x.ow = true) (h2 : ¬ x.ow = c) (hk : m.kd = 1) : Calls Tryd.prog 10 #[.agg (ec x), .int .i64 c, .agg (msc m)] w (En3r w (getSE x c m, 0)) := by
  have t1 : (x.bu != 0) = false := by simp [hb]
  have hx8 := x.h
  have hm8 := m.h
  have s1 : (m.kd == 1) = true := by simp [hk]
  have e1 : (getSE x c m, (0 : Int)) = ((busyE x 1 c (bitM x.ow), [⟨x.ow, ms4 13 m.li false false⟩]), 0) := by
    have : x.ow ≠ -1 := by intro h; rw [h] at h1; simp [isC] at h1
    simp [getSE, waitE, busyE, hk, h2, this, tell_one, h1]
  have q1 := ge0 h1
  have q2 : (x.ow != c) = true := by simpa using h2
  rw [e1]
  clear e1
  clear hk
  go_enter Tryd.func10, Tryd.ntmps10
  try dsimp only [List.append]
  go_wp2_with fail
  refine gen_calls3 (w := w) (b1 := w.heap.size) (x1 := .cells (ec (x)) 33 (0, 0)) (b2 := w.heap.size + 1) (x2 := .cells (msc m) 28 (0, 0)) (b3 := w.heap.size + 2) (x3 := .cells (ec (enZ)) 33 (0, 0)) (by (repeat' (first | with_reducible exact Chg.refl _ _ | with_reducible assumption | with_reducible refine Chg.drew ?_ | with_reducible refine Chg.drewN ?_ _ | with_reducible refine Chg.alloc ?_ _ | with_reducible refine Chg.putRow ?_ _ _ _ (.inr ?_) | with_reducible refine Chg.setCell ?_ _ _ _ (.inr ?_)  | (show _ ≤ _; first | exact Nat.le_refl _ | omega | (simp; done))))) (by simp [*]) (by simp [*]) (by simp [*]) fun w1 C1 rE rM rR => ?_
  have oE := old rE
  have oM := old rM
  have oR := old rR
  refine (rgood_at x _ g1 w1).mono ?_
  rintro e w3 ⟨rfl, c3⟩
  have rE3 := c3.keep rE (by simp)
  have rM3 := c3.keep rM (by simp)
  have rR3 := c3.keep rR (by simp)
  have C3 := C1.trans c3
  clear rE rM rR oE oM oR C1 c3
  have oE3 := old rE3
  have oM3 := old rM3
  have oR3 := old rR3
  go_wp2_with ((go_at_call 32; refine (rcore_at _ _ g2 _).mono ?_; rintro e w' ⟨rfl, rfl⟩))
  refine (rmgood_at m _ g3 w3).mono ?_
  rintro e w4 ⟨rfl, c4⟩
  have rE4 := c4.keep rE3 (by simp)
  have rM4 := c4.keep rM3 (by simp)
  have rR4 := c4.keep rR3 (by simp)
  have C4 := C3.trans c4
  clear rE3 rM3 rR3 oE3 oM3 oR3 C3 c4
  have oE4 := old rE4
  have oM4 := old rM4
  have oR4 := old rR4
  clear g1 g2 g3
  go_wp2_with (first | (go_at_call 34; refine (rasks_at _ _ g4 _).mono ?_; rintro e w' ⟨rfl, rfl⟩) | (go_at_call 26; refine (rbit_any _ _).mono ?_; rintro e w' ⟨rfl, rfl⟩))
  refine gen_world3 (w := w) (b1 := w.heap.size) (x1 := .cells (ec (x)) 33 (0, 0)) (b2 := w.heap.size + 1) (x2 := .cells (msc m) 28 (0, 0)) (b3 := w.heap.size + 2) (x3 := .cells (ec (enZ)) 33 (0, 0)) (by (repeat' (first | with_reducible exact Chg.refl _ _ | with_reducible assumption | with_reducible refine Chg.drew ?_ | with_reducible refine Chg.drewN ?_ _ | with_reducible refine Chg.alloc ?_ _ | with_reducible refine Chg.putRow ?_ _ _ _ (.inr ?_) | with_reducible refine Chg.setCell ?_ _ _ _ (.inr ?_)  | (show _ ≤ _; first | exact Nat.le_refl _ | omega | (simp; done))))) (by simp [*]) (by simp [*]) (by simp [*]) fun w8 C8 rE rM rR => ?_
  have oE := old rE
  have oM := old rM
  have oR := old rR
  go_region_held3 (fun w' => w'.heap[w.heap.size]? = some (.cells (ec (x)) 33 (0, 0)) ∧ w'.heap[w.heap.size + 1]? = some (.cells (msc m) 28 (0, 0))) (exact ⟨Chg.keep (l := [w.heap.size + 2]) (w := w8) (by (repeat' (first | with_reducible exact Ta | with_reducible exact Tb | with_reducible exact Tc | with_reducible exact Chg.refl _ _ | with_reducible refine Chg.alloc ?_ _ | with_reducible refine Chg.drew ?_ | with_reducible refine Chg.putRow ?_ _ _ _ (.inl (List.mem_singleton.2 rfl))))) rE (by simp), Chg.keep (l := [w.heap.size + 2]) (w := w8) (by (repeat' (first | with_reducible exact Ta | with_reducible exact Tb | with_reducible exact Tc | with_reducible exact Chg.refl _ _ | with_reducible refine Chg.alloc ?_ _ | with_reducible refine Chg.drew ?_ | with_reducible refine Chg.putRow ?_ _ _ _ (.inl (List.mem_singleton.2 rfl))))) rM (by simp)⟩)
    (first
      | (go_at_call 36; refine (rmine_any _ _).mono ?_; rintro e w' ⟨rfl, ca⟩; (first | (have Ta : Chg [w.heap.size + 2] w8 _ := Chg.trans ((Chg.refl [w.heap.size + 2] w8).drew) (Chg.mono ca (fun _ h => absurd h List.not_mem_nil))) | (have Ta : Chg [w.heap.size + 2] w8 _ := Chg.trans (Chg.alloc ((Chg.refl [w.heap.size + 2] w8).drew) _) (Chg.mono ca (fun _ h => absurd h List.not_mem_nil))) | (have Ta : Chg [w.heap.size + 2] w8 _ := Chg.trans (Chg.putRow ((Chg.refl [w.heap.size + 2] w8).drew) (w.heap.size + 2) 0 _ (.inl (List.mem_singleton.2 rfl))) (Chg.mono ca (fun _ h => absurd h List.not_mem_nil))) | (have Ta : Chg [w.heap.size + 2] w8 _ := Chg.trans (Chg.putRow (Chg.alloc ((Chg.refl [w.heap.size + 2] w8).drew) _) (w.heap.size + 2) 0 _ (.inl (List.mem_singleton.2 rfl))) (Chg.mono ca (fun _ h => absurd h List.not_mem_nil))) | (have Ta : Chg [w.heap.size + 2] w8 _ := Chg.trans (Chg.alloc (Chg.putRow ((Chg.refl [w.heap.size + 2] w8).drew) (w.heap.size + 2) 0 _ (.inl (List.mem_singleton.2 rfl))) _) (Chg.mono ca (fun _ h => absurd h List.not_mem_nil))) | (have Ta : Chg [w.heap.size + 2] w8 _ := Chg.trans Tc (Chg.mono ca (fun _ h => absurd h List.not_mem_nil))) | (have Ta : Chg [w.heap.size + 2] w8 _ := Chg.trans (Chg.alloc Tc _) (Chg.mono ca (fun _ h => absurd h List.not_mem_nil))) | (have Ta : Chg [w.heap.size + 2] w8 _ := Chg.trans (Chg.putRow Tc (w.heap.size + 2) 0 _ (.inl (List.mem_singleton.2 rfl))) (Chg.mono ca (fun _ h => absurd h List.not_mem_nil))) | (have Ta : Chg [w.heap.size + 2] w8 _ := Chg.trans (Chg.putRow (Chg.alloc Tc _) (w.heap.size + 2) 0 _ (.inl (List.mem_singleton.2 rfl))) (Chg.mono ca (fun _ h => absurd h List.not_mem_nil))) | (have Ta : Chg [w.heap.size + 2] w8 _ := Chg.trans (Chg.alloc (Chg.putRow Tc (w.heap.size + 2) 0 _ (.inl (List.mem_singleton.2 rfl))) _) (Chg.mono ca (fun _ h => absurd h List.not_mem_nil)))); (first | (have rRa := ca.keep rR List.not_mem_nil) | (have rRa := ca.keep rRc List.not_mem_nil) | (have rRa := Chg.keep ((Chg.refl [] _).alloc _ |>.trans ca) rR List.not_mem_nil) | (have rRa := Chg.keep ((Chg.refl [] _).alloc _ |>.trans ca) rRc List.not_mem_nil) | (have rRa := ca.keep (put_row rR rfl) List.not_mem_nil) | (have rRa := ca.keep (put_row rRc rfl) List.not_mem_nil)))
      | (go_at_call 35; refine (rbusy_any _ _ _ _ _).mono ?_; rintro e w' ⟨rfl, cb⟩; (first | (have Tb : Chg [w.heap.size + 2] w8 _ := Chg.trans ((Chg.refl [w.heap.size + 2] w8).drew) (Chg.mono cb (fun _ h => absurd h List.not_mem_nil))) | (have Tb : Chg [w.heap.size + 2] w8 _ := Chg.trans (Chg.alloc ((Chg.refl [w.heap.size + 2] w8).drew) _) (Chg.mono cb (fun _ h => absurd h List.not_mem_nil))) | (have Tb : Chg [w.heap.size + 2] w8 _ := Chg.trans (Chg.putRow ((Chg.refl [w.heap.size + 2] w8).drew) (w.heap.size + 2) 0 _ (.inl (List.mem_singleton.2 rfl))) (Chg.mono cb (fun _ h => absurd h List.not_mem_nil))) | (have Tb : Chg [w.heap.size + 2] w8 _ := Chg.trans (Chg.putRow (Chg.alloc ((Chg.refl [w.heap.size + 2] w8).drew) _) (w.heap.size + 2) 0 _ (.inl (List.mem_singleton.2 rfl))) (Chg.mono cb (fun _ h => absurd h List.not_mem_nil))) | (have Tb : Chg [w.heap.size + 2] w8 _ := Chg.trans (Chg.alloc (Chg.putRow ((Chg.refl [w.heap.size + 2] w8).drew) (w.heap.size + 2) 0 _ (.inl (List.mem_singleton.2 rfl))) _) (Chg.mono cb (fun _ h => absurd h List.not_mem_nil))) | (have Tb : Chg [w.heap.size + 2] w8 _ := Chg.trans Ta (Chg.mono cb (fun _ h => absurd h List.not_mem_nil))) | (have Tb : Chg [w.heap.size + 2] w8 _ := Chg.trans (Chg.alloc Ta _) (Chg.mono cb (fun _ h => absurd h List.not_mem_nil))) | (have Tb : Chg [w.heap.size + 2] w8 _ := Chg.trans (Chg.putRow Ta (w.heap.size + 2) 0 _ (.inl (List.mem_singleton.2 rfl))) (Chg.mono cb (fun _ h => absurd h List.not_mem_nil))) | (have Tb : Chg [w.heap.size + 2] w8 _ := Chg.trans (Chg.putRow (Chg.alloc Ta _) (w.heap.size + 2) 0 _ (.inl (List.mem_singleton.2 rfl))) (Chg.mono cb (fun _ h => absurd h List.not_mem_nil))) | (have Tb : Chg [w.heap.size + 2] w8 _ := Chg.trans (Chg.alloc (Chg.putRow Ta (w.heap.size + 2) 0 _ (.inl (List.mem_singleton.2 rfl))) _) (Chg.mono cb (fun _ h => absurd h List.not_mem_nil))) | (have Tb : Chg [w.heap.size + 2] w8 _ := Chg.trans Tc (Chg.mono cb (fun _ h => absurd h List.not_mem_nil))) | (have Tb : Chg [w.heap.size + 2] w8 _ := Chg.trans (Chg.alloc Tc _) (Chg.mono cb (fun _ h => absurd h List.not_mem_nil))) | (have Tb : Chg [w.heap.size + 2] w8 _ := Chg.trans (Chg.putRow Tc (w.heap.size + 2) 0 _ (.inl (List.mem_singleton.2 rfl))) (Chg.mono cb (fun _ h => absurd h List.not_mem_nil))) | (have Tb : Chg [w.heap.size + 2] w8 _ := Chg.trans (Chg.putRow (Chg.alloc Tc _) (w.heap.size + 2) 0 _ (.inl (List.mem_singleton.2 rfl))) (Chg.mono cb (fun _ h => absurd h List.not_mem_nil))) | (have Tb : Chg [w.heap.size + 2] w8 _ := Chg.trans (Chg.alloc (Chg.putRow Tc (w.heap.size + 2) 0 _ (.inl (List.mem_singleton.2 rfl))) _) (Chg.mono cb (fun _ h => absurd h List.not_mem_nil)))); (first | (have rRb := cb.keep rR List.not_mem_nil) | (have rRb := cb.keep rRa List.not_mem_nil) | (have rRb := cb.keep rRc List.not_mem_nil) | (have rRb := Chg.keep ((Chg.refl [] _).alloc _ |>.trans cb) rR List.not_mem_nil) | (have rRb := Chg.keep ((Chg.refl [] _).alloc _ |>.trans cb) rRa List.not_mem_nil) | (have rRb := Chg.keep ((Chg.refl [] _).alloc _ |>.trans cb) rRc List.not_mem_nil) | (have rRb := cb.keep (put_row rR rfl) List.not_mem_nil) | (have rRb := cb.keep (put_row rRa rfl) List.not_mem_nil) | (have rRb := cb.keep (put_row rRc rfl) List.not_mem_nil)))
      | (go_at_call 37; refine (rtell0_any _ _ _ _).mono ?_; rintro e w' ⟨rfl, cc⟩; (first | (have Tc : Chg [w.heap.size + 2] w8 _ := Chg.trans ((Chg.refl [w.heap.size + 2] w8).drew) (Chg.mono cc (fun _ h => absurd h List.not_mem_nil))) | (have Tc : Chg [w.heap.size + 2] w8 _ := Chg.trans (Chg.alloc ((Chg.refl [w.heap.size + 2] w8).drew) _) (Chg.mono cc (fun _ h => absurd h List.not_mem_nil))) | (have Tc : Chg [w.heap.size + 2] w8 _ := Chg.trans (Chg.putRow ((Chg.refl [w.heap.size + 2] w8).drew) (w.heap.size + 2) 0 _ (.inl (List.mem_singleton.2 rfl))) (Chg.mono cc (fun _ h => absurd h List.not_mem_nil))) | (have Tc : Chg [w.heap.size + 2] w8 _ := Chg.trans (Chg.putRow (Chg.alloc ((Chg.refl [w.heap.size + 2] w8).drew) _) (w.heap.size + 2) 0 _ (.inl (List.mem_singleton.2 rfl))) (Chg.mono cc (fun _ h => absurd h List.not_mem_nil))) | (have Tc : Chg [w.heap.size + 2] w8 _ := Chg.trans (Chg.alloc (Chg.putRow ((Chg.refl [w.heap.size + 2] w8).drew) (w.heap.size + 2) 0 _ (.inl (List.mem_singleton.2 rfl))) _) (Chg.mono cc (fun _ h => absurd h List.not_mem_nil))) | (have Tc : Chg [w.heap.size + 2] w8 _ := Chg.trans Ta (Chg.mono cc (fun _ h => absurd h List.not_mem_nil))) | (have Tc : Chg [w.heap.size + 2] w8 _ := Chg.trans (Chg.alloc Ta _) (Chg.mono cc (fun _ h => absurd h List.not_mem_nil))) | (have Tc : Chg [w.heap.size + 2] w8 _ := Chg.trans (Chg.putRow Ta (w.heap.size + 2) 0 _ (.inl (List.mem_singleton.2 rfl))) (Chg.mono cc (fun _ h => absurd h List.not_mem_nil))) | (have Tc : Chg [w.heap.size + 2] w8 _ := Chg.trans (Chg.putRow (Chg.alloc Ta _) (w.heap.size + 2) 0 _ (.inl (List.mem_singleton.2 rfl))) (Chg.mono cc (fun _ h => absurd h List.not_mem_nil))) | (have Tc : Chg [w.heap.size + 2] w8 _ := Chg.trans (Chg.alloc (Chg.putRow Ta (w.heap.size + 2) 0 _ (.inl (List.mem_singleton.2 rfl))) _) (Chg.mono cc (fun _ h => absurd h List.not_mem_nil))) | (have Tc : Chg [w.heap.size + 2] w8 _ := Chg.trans Tb (Chg.mono cc (fun _ h => absurd h List.not_mem_nil))) | (have Tc : Chg [w.heap.size + 2] w8 _ := Chg.trans (Chg.alloc Tb _) (Chg.mono cc (fun _ h => absurd h List.not_mem_nil))) | (have Tc : Chg [w.heap.size + 2] w8 _ := Chg.trans (Chg.putRow Tb (w.heap.size + 2) 0 _ (.inl (List.mem_singleton.2 rfl))) (Chg.mono cc (fun _ h => absurd h List.not_mem_nil))) | (have Tc : Chg [w.heap.size + 2] w8 _ := Chg.trans (Chg.putRow (Chg.alloc Tb _) (w.heap.size + 2) 0 _ (.inl (List.mem_singleton.2 rfl))) (Chg.mono cc (fun _ h => absurd h List.not_mem_nil))) | (have Tc : Chg [w.heap.size + 2] w8 _ := Chg.trans (Chg.alloc (Chg.putRow Tb (w.heap.size + 2) 0 _ (.inl (List.mem_singleton.2 rfl))) _) (Chg.mono cc (fun _ h => absurd h List.not_mem_nil)))); (first | (have rRc := cc.keep rR List.not_mem_nil) | (have rRc := cc.keep rRa List.not_mem_nil) | (have rRc := cc.keep rRb List.not_mem_nil) | (have rRc := Chg.keep ((Chg.refl [] _).alloc _ |>.trans cc) rR List.not_mem_nil) | (have rRc := Chg.keep ((Chg.refl [] _).alloc _ |>.trans cc) rRa List.not_mem_nil) | (have rRc := Chg.keep ((Chg.refl [] _).alloc _ |>.trans cc) rRb List.not_mem_nil) | (have rRc := cc.keep (put_row rR rfl) List.not_mem_nil) | (have rRc := cc.keep (put_row rRa rfl) List.not_mem_nil) | (have rRc := cc.keep (put_row rRb rfl) List.not_mem_nil))))
  all_goals
    go_wp2_with fail
    refine bodyPost_ret (results_er3 (by rfl) _ _ (w.heap.size + 2) (busyE x 1 c (bitM x.ow)) (0, 0) (by rfl) (by first | (simp [rRc]; done) | (simp [rRb]; done) | (simp [rRa]; done)) _ _ (by rfl) (by rfl)) (by rfl) ?_
    first
      | exact En3r.L1 C8 Tb oR (by omega)
      | exact En3r.L1p C8 Tb oR (by omega)
      | exact En3r.L2 C8 Tb oR (by omega)
      | exact En3r.L1 C8 Tc oR (by omega)
      | exact En3r.L1p C8 Tc oR (by omega)
      | exact En3r.L2 C8 Tc oR (by omega)
      | exact En3r.L1 C8 Ta oR (by omega)
      | exact En3r.L1p C8 Ta oR (by omega)
      | exact En3r.L2 C8 Ta oR (by omega)
      | exact En3r.L3 C8 Tb oR (by omega) cb
      | exact En3r.L3 C8 Tb oR (by omega) (Chg.trans ca cb)
      | exact En3r.L3 C8 Tc oR (by omega) cb
      | exact En3r.L3 C8 Tc oR (by omega) (Chg.trans ca cb)
      | exact En3r.L3 C8 Ta oR (by omega) cb
      | exact En3r.L3 C8 Ta oR (by omega) (Chg.trans ca cb)
      | exact En3r.L1 C8 (Chg.drew (Chg.refl [w.heap.size + 2] w8)) oR (by omega)
      | exact En3r.L1p C8 (Chg.drew (Chg.refl [w.heap.size + 2] w8)) oR (by omega)
      | exact En3r.L2 C8 (Chg.drew (Chg.refl [w.heap.size + 2] w8)) oR (by omega)
set_option maxHeartbeats 4000000 in
set_option maxRecDepth 100000 in
theorem rask_S2 (x : En) (c : Int) (m : Ms) (w : World) (o00 : Old w 0) (g1 : goodE x = true) (g2 : isC c = true) (g3 : mg m = true) (g4 : asksB m.kd = true) (hb : x.bu = 0) (hh : x.he = true) (h1 : ¬ (x.ow ≠ -1 ∧ x.ow ≠ c)) (h2 : x.sh = 0#8) (hk : m.kd = 1) : Calls Tryd.prog 10 #[.agg (ec x), .int .i64 c, .agg (msc m)] w (En3r w (getSE x c m, 0)) := by
  have t1 : (x.bu != 0) = false := by simp [hb]
  have hx8 := x.h
  have hm8 := m.h
  have s1 : (m.kd == 1) = true := by simp [hk]
  have hX := h1
  have e1 : (getSE x c m, (0 : Int)) = ((overE ((x.setOw c).setSh 0#8), [⟨c, ms5 9 m.li x.l x.h⟩]), 0) := by
    rw [over_own c g1 hb]
    simp [getSE, ownedE, tell_one, g2, hX, h2]
  rw [e1]
  clear e1 hX
  have q3 : (x.sh == 0#8) = true := by simp [h2]
  have q : decide (0 ≤ x.ow) = false ∨ (decide (0 ≤ x.ow) = true ∧ (x.ow != c) = false) := by
    rcases good_ow g1 with h | ⟨h, _⟩
    · exact .inl (by simp [h])
    · refine .inr ⟨ge0 h, ?_⟩
      have : x.ow = c := Decidable.byContradiction fun h3 => h1 ⟨by intro h4; rw [h4] at h; simp [isC] at h, h3⟩
      simp [this]
  clear h1
  rcases q with q1 | ⟨q1, q2⟩
  all_goals
    clear hk
    go_enter Tryd.func10, Tryd.ntmps10
    try dsimp only [List.append]
    go_wp2_with fail
    refine gen_calls3 (w := w) (b1 := w.heap.size) (x1 := .cells (ec (x)) 33 (0, 0)) (b2 := w.heap.size + 1) (x2 := .cells (msc m) 28 (0, 0)) (b3 := w.heap.size + 2) (x3 := .cells (ec (enZ)) 33 (0, 0)) (by (repeat' (first | with_reducible exact Chg.refl _ _ | with_reducible assumption | with_reducible refine Chg.drew ?_ | with_reducible refine Chg.drewN ?_ _ | with_reducible refine Chg.alloc ?_ _ | with_reducible refine Chg.putRow ?_ _ _ _ (.inr ?_) | with_reducible refine Chg.setCell ?_ _ _ _ (.inr ?_)  | (show _ ≤ _; first | exact Nat.le_refl _ | omega | (simp; done))))) (by simp [*]) (by simp [*]) (by simp [*]) fun w1 C1 rE rM rR => ?_
    have oE := old rE
    have oM := old rM
    have oR := old rR
    refine (rgood_at x _ g1 w1).mono ?_
    rintro e w3 ⟨rfl, c3⟩
    have rE3 := c3.keep rE (by simp)
    have rM3 := c3.keep rM (by simp)
    have rR3 := c3.keep rR (by simp)
    have C3 := C1.trans c3
    clear rE rM rR oE oM oR C1 c3
    have oE3 := old rE3
    have oM3 := old rM3
    have oR3 := old rR3
    go_wp2_with ((go_at_call 32; refine (rcore_at _ _ g2 _).mono ?_; rintro e w' ⟨rfl, rfl⟩))
    refine (rmgood_at m _ g3 w3).mono ?_
    rintro e w4 ⟨rfl, c4⟩
    have rE4 := c4.keep rE3 (by simp)
    have rM4 := c4.keep rM3 (by simp)
    have rR4 := c4.keep rR3 (by simp)
    have C4 := C3.trans c4
    clear rE3 rM3 rR3 oE3 oM3 oR3 C3 c4
    have oE4 := old rE4
    have oM4 := old rM4
    have oR4 := old rR4
    clear g1 g2 g3
    go_upto_region 13 with (first | (go_at_call 34; refine (rasks_at _ _ g4 _).mono ?_; rintro e w' ⟨rfl, rfl⟩) | (go_at_call 26; refine (rbit_any _ _).mono ?_; rintro e w' ⟨rfl, rfl⟩))
    refine gen_world3 (w := w) (b1 := w.heap.size) (x1 := .cells (ec (x)) 33 (0, 0)) (b2 := w.heap.size + 1) (x2 := .cells (msc m) 28 (0, 0)) (b3 := w.heap.size + 2) (x3 := .cells (ec (enZ)) 33 (0, 0)) (by (repeat' (first | with_reducible exact Chg.refl _ _ | with_reducible assumption | with_reducible refine Chg.drew ?_ | with_reducible refine Chg.drewN ?_ _ | with_reducible refine Chg.alloc ?_ _ | with_reducible refine Chg.putRow ?_ _ _ _ (.inr ?_) | with_reducible refine Chg.setCell ?_ _ _ _ (.inr ?_)  | (show _ ≤ _; first | exact Nat.le_refl _ | omega | (simp; done))))) (by simp [*]) (by simp [*]) (by simp [*]) fun w8 C8 rE rM rR => ?_
    have oE := old rE
    have oM := old rM
    have oR := old rR
    go_region_held3 (fun w' => w'.heap[w.heap.size]? = some (.cells (ec (x)) 33 (0, 0)) ∧ w'.heap[w.heap.size + 1]? = some (.cells (msc m) 28 (0, 0))) (exact ⟨Chg.keep (l := [w.heap.size + 2]) (w := w8) (by (repeat' (first | with_reducible exact Tb | with_reducible exact Tc | with_reducible exact Chg.refl _ _ | with_reducible refine Chg.alloc ?_ _ | with_reducible refine Chg.drew ?_ | with_reducible refine Chg.putRow ?_ _ _ _ (.inl (List.mem_singleton.2 rfl))))) rE (by simp), Chg.keep (l := [w.heap.size + 2]) (w := w8) (by (repeat' (first | with_reducible exact Tb | with_reducible exact Tc | with_reducible exact Chg.refl _ _ | with_reducible refine Chg.alloc ?_ _ | with_reducible refine Chg.drew ?_ | with_reducible refine Chg.putRow ?_ _ _ _ (.inl (List.mem_singleton.2 rfl))))) rM (by simp)⟩)
      (first
        | (go_at_call 38; refine (rowned_any _ _ _).mono ?_; rintro e w' ⟨rfl, cb⟩; (first | (have Tb : Chg [w.heap.size + 2] w8 _ := Chg.trans ((Chg.refl [w.heap.size + 2] w8).drew) (Chg.mono cb (fun _ h => absurd h List.not_mem_nil))) | (have Tb : Chg [w.heap.size + 2] w8 _ := Chg.trans (Chg.alloc ((Chg.refl [w.heap.size + 2] w8).drew) _) (Chg.mono cb (fun _ h => absurd h List.not_mem_nil))) | (have Tb : Chg [w.heap.size + 2] w8 _ := Chg.trans (Chg.putRow ((Chg.refl [w.heap.size + 2] w8).drew) (w.heap.size + 2) 0 _ (.inl (List.mem_singleton.2 rfl))) (Chg.mono cb (fun _ h => absurd h List.not_mem_nil))) | (have Tb : Chg [w.heap.size + 2] w8 _ := Chg.trans (Chg.putRow (Chg.alloc ((Chg.refl [w.heap.size + 2] w8).drew) _) (w.heap.size + 2) 0 _ (.inl (List.mem_singleton.2 rfl))) (Chg.mono cb (fun _ h => absurd h List.not_mem_nil))) | (have Tb : Chg [w.heap.size + 2] w8 _ := Chg.trans (Chg.alloc (Chg.putRow ((Chg.refl [w.heap.size + 2] w8).drew) (w.heap.size + 2) 0 _ (.inl (List.mem_singleton.2 rfl))) _) (Chg.mono cb (fun _ h => absurd h List.not_mem_nil))) | (have Tb : Chg [w.heap.size + 2] w8 _ := Chg.trans Tc (Chg.mono cb (fun _ h => absurd h List.not_mem_nil))) | (have Tb : Chg [w.heap.size + 2] w8 _ := Chg.trans (Chg.alloc Tc _) (Chg.mono cb (fun _ h => absurd h List.not_mem_nil))) | (have Tb : Chg [w.heap.size + 2] w8 _ := Chg.trans (Chg.putRow Tc (w.heap.size + 2) 0 _ (.inl (List.mem_singleton.2 rfl))) (Chg.mono cb (fun _ h => absurd h List.not_mem_nil))) | (have Tb : Chg [w.heap.size + 2] w8 _ := Chg.trans (Chg.putRow (Chg.alloc Tc _) (w.heap.size + 2) 0 _ (.inl (List.mem_singleton.2 rfl))) (Chg.mono cb (fun _ h => absurd h List.not_mem_nil))) | (have Tb : Chg [w.heap.size + 2] w8 _ := Chg.trans (Chg.alloc (Chg.putRow Tc (w.heap.size + 2) 0 _ (.inl (List.mem_singleton.2 rfl))) _) (Chg.mono cb (fun _ h => absurd h List.not_mem_nil)))); (first | (have rRb := cb.keep rR List.not_mem_nil) | (have rRb := cb.keep rRc List.not_mem_nil) | (have rRb := Chg.keep ((Chg.refl [] _).alloc _ |>.trans cb) rR List.not_mem_nil) | (have rRb := Chg.keep ((Chg.refl [] _).alloc _ |>.trans cb) rRc List.not_mem_nil) | (have rRb := cb.keep (put_row rR rfl) List.not_mem_nil) | (have rRb := cb.keep (put_row rRc rfl) List.not_mem_nil)))
        | (go_at_call 37; refine (rtell_any _ _ _ _ x.h _).mono ?_; rintro e w' ⟨rfl, cc⟩; (first | (have Tc : Chg [w.heap.size + 2] w8 _ := Chg.trans ((Chg.refl [w.heap.size + 2] w8).drew) (Chg.mono cc (fun _ h => absurd h List.not_mem_nil))) | (have Tc : Chg [w.heap.size + 2] w8 _ := Chg.trans (Chg.alloc ((Chg.refl [w.heap.size + 2] w8).drew) _) (Chg.mono cc (fun _ h => absurd h List.not_mem_nil))) | (have Tc : Chg [w.heap.size + 2] w8 _ := Chg.trans (Chg.putRow ((Chg.refl [w.heap.size + 2] w8).drew) (w.heap.size + 2) 0 _ (.inl (List.mem_singleton.2 rfl))) (Chg.mono cc (fun _ h => absurd h List.not_mem_nil))) | (have Tc : Chg [w.heap.size + 2] w8 _ := Chg.trans (Chg.putRow (Chg.alloc ((Chg.refl [w.heap.size + 2] w8).drew) _) (w.heap.size + 2) 0 _ (.inl (List.mem_singleton.2 rfl))) (Chg.mono cc (fun _ h => absurd h List.not_mem_nil))) | (have Tc : Chg [w.heap.size + 2] w8 _ := Chg.trans (Chg.alloc (Chg.putRow ((Chg.refl [w.heap.size + 2] w8).drew) (w.heap.size + 2) 0 _ (.inl (List.mem_singleton.2 rfl))) _) (Chg.mono cc (fun _ h => absurd h List.not_mem_nil))) | (have Tc : Chg [w.heap.size + 2] w8 _ := Chg.trans Tb (Chg.mono cc (fun _ h => absurd h List.not_mem_nil))) | (have Tc : Chg [w.heap.size + 2] w8 _ := Chg.trans (Chg.alloc Tb _) (Chg.mono cc (fun _ h => absurd h List.not_mem_nil))) | (have Tc : Chg [w.heap.size + 2] w8 _ := Chg.trans (Chg.putRow Tb (w.heap.size + 2) 0 _ (.inl (List.mem_singleton.2 rfl))) (Chg.mono cc (fun _ h => absurd h List.not_mem_nil))) | (have Tc : Chg [w.heap.size + 2] w8 _ := Chg.trans (Chg.putRow (Chg.alloc Tb _) (w.heap.size + 2) 0 _ (.inl (List.mem_singleton.2 rfl))) (Chg.mono cc (fun _ h => absurd h List.not_mem_nil))) | (have Tc : Chg [w.heap.size + 2] w8 _ := Chg.trans (Chg.alloc (Chg.putRow Tb (w.heap.size + 2) 0 _ (.inl (List.mem_singleton.2 rfl))) _) (Chg.mono cc (fun _ h => absurd h List.not_mem_nil)))); (first | (have rRc := cc.keep rR List.not_mem_nil) | (have rRc := cc.keep rRb List.not_mem_nil) | (have rRc := Chg.keep ((Chg.refl [] _).alloc _ |>.trans cc) rR List.not_mem_nil) | (have rRc := Chg.keep ((Chg.refl [] _).alloc _ |>.trans cc) rRb List.not_mem_nil) | (have rRc := cc.keep (put_row rR rfl) List.not_mem_nil) | (have rRc := cc.keep (put_row rRb rfl) List.not_mem_nil))))
    all_goals
      go_wp2_with fail
      refine bodyPost_ret (results_er3 (by rfl) _ _ (w.heap.size + 2) (overE ((x.setOw c).setSh 0#8)) (0, 0) (by rfl) (by first | (simp [rRc]; done) | (simp [rRb]; done)) _ _ (by rfl) (by rfl)) (by rfl) ?_
      first
        | exact En3r.L1 C8 Tb oR (by omega)
        | exact En3r.L1p C8 Tb oR (by omega)
        | exact En3r.L2 C8 Tb oR (by omega)
        | exact En3r.L1 C8 Tc oR (by omega)
        | exact En3r.L1p C8 Tc oR (by omega)
        | exact En3r.L2 C8 Tc oR (by omega)
        | exact En3r.L3 C8 Tb oR (by omega) cb
        | exact En3r.L3 C8 Tc oR (by omega) cb
        | exact En3r.L1 C8 (Chg.drew (Chg.refl [w.heap.size + 2] w8)) oR (by omega)
        | exact En3r.L1p C8 (Chg.drew (Chg.refl [w.heap.size + 2] w8)) oR (by omega)
        | exact En3r.L2 C8 (Chg.drew (Chg.refl [w.heap.size + 2] w8)) oR (by omega)
set_option maxHeartbeats 4000000 in
set_option maxRecDepth 100000 in
theorem rask_S3 (x : En) (c : Int) (m : Ms) (w : World) (o00 : Old w 0) (g1 : goodE x = true) (g2 : isC c = true) (g3 : mg m = true) (g4 : asksB m.kd = true) (hb : x.bu = 0) (hh : x.he = true) (h1 : ¬ (x.ow ≠ -1 ∧ x.ow ≠ c)) (h2 : ¬ x.sh = 0#8) (hk : m.kd = 1) : Calls Tryd.prog 10 #[.agg (ec x), .int .i64 c, .agg (msc m)] w (En3r w (getSE x c m, 0)) := by
  have t1 : (x.bu != 0) = false := by simp [hb]
  have hx8 := x.h
  have hm8 := m.h
  have s1 : (m.kd == 1) = true := by simp [hk]
  have e1 : (getSE x c m, (0 : Int)) = ((x.setSh (x.sh ||| bitM c), [⟨c, ms5 8 m.li x.l x.h⟩]), 0) := by
    simp [getSE, sharedE, h1, h2, tell_one, g2]
  have q3 : (x.sh == 0#8) = false := by simp [h2]
  have q1 : decide (0 ≤ x.ow) = false := by
    rcases good_ow g1 with h | ⟨_, h⟩
    · simp [h]
    · exact absurd h h2
  rw [e1]
  clear e1 h1 h2
  clear hk
  go_enter Tryd.func10, Tryd.ntmps10
  try dsimp only [List.append]
  go_wp2_with fail
  refine gen_calls3 (w := w) (b1 := w.heap.size) (x1 := .cells (ec (x)) 33 (0, 0)) (b2 := w.heap.size + 1) (x2 := .cells (msc m) 28 (0, 0)) (b3 := w.heap.size + 2) (x3 := .cells (ec (enZ)) 33 (0, 0)) (by (repeat' (first | with_reducible exact Chg.refl _ _ | with_reducible assumption | with_reducible refine Chg.drew ?_ | with_reducible refine Chg.drewN ?_ _ | with_reducible refine Chg.alloc ?_ _ | with_reducible refine Chg.putRow ?_ _ _ _ (.inr ?_) | with_reducible refine Chg.setCell ?_ _ _ _ (.inr ?_)  | (show _ ≤ _; first | exact Nat.le_refl _ | omega | (simp; done))))) (by simp [*]) (by simp [*]) (by simp [*]) fun w1 C1 rE rM rR => ?_
  have oE := old rE
  have oM := old rM
  have oR := old rR
  refine (rgood_at x _ g1 w1).mono ?_
  rintro e w3 ⟨rfl, c3⟩
  have rE3 := c3.keep rE (by simp)
  have rM3 := c3.keep rM (by simp)
  have rR3 := c3.keep rR (by simp)
  have C3 := C1.trans c3
  clear rE rM rR oE oM oR C1 c3
  have oE3 := old rE3
  have oM3 := old rM3
  have oR3 := old rR3
  go_wp2_with ((go_at_call 32; refine (rcore_at _ _ g2 _).mono ?_; rintro e w' ⟨rfl, rfl⟩))
  refine (rmgood_at m _ g3 w3).mono ?_
  rintro e w4 ⟨rfl, c4⟩
  have rE4 := c4.keep rE3 (by simp)
  have rM4 := c4.keep rM3 (by simp)
  have rR4 := c4.keep rR3 (by simp)
  have C4 := C3.trans c4
  clear rE3 rM3 rR3 oE3 oM3 oR3 C3 c4
  have oE4 := old rE4
  have oM4 := old rM4
  have oR4 := old rR4
  clear g1 g2 g3
  go_upto_region 15 with (first | (go_at_call 34; refine (rasks_at _ _ g4 _).mono ?_; rintro e w' ⟨rfl, rfl⟩) | (go_at_call 26; refine (rbit_any _ _).mono ?_; rintro e w' ⟨rfl, rfl⟩))
  refine gen_world3 (w := w) (b1 := w.heap.size) (x1 := .cells (ec (x.setSh (x.sh ||| bitM c))) 33 (0, 0)) (b2 := w.heap.size + 1) (x2 := .cells (msc m) 28 (0, 0)) (b3 := w.heap.size + 2) (x3 := .cells (ec (enZ)) 33 (0, 0)) (by (repeat' (first | with_reducible exact Chg.refl _ _ | with_reducible assumption | with_reducible refine Chg.drew ?_ | with_reducible refine Chg.drewN ?_ _ | with_reducible refine Chg.alloc ?_ _ | with_reducible refine Chg.putRow ?_ _ _ _ (.inr ?_) | with_reducible refine Chg.setCell ?_ _ _ _ (.inr ?_)  | (show _ ≤ _; first | exact Nat.le_refl _ | omega | (simp; done))))) (by simp [*]) (by simp [*]) (by simp [*]) fun w8 C8 rE rM rR => ?_
  have oE := old rE
  have oM := old rM
  have oR := old rR
  go_region_held3 (fun w' => w'.heap[w.heap.size]? = some (.cells (ec (x.setSh (x.sh ||| bitM c))) 33 (0, 0)) ∧ w'.heap[w.heap.size + 1]? = some (.cells (msc m) 28 (0, 0))) (exact ⟨Chg.keep (l := [w.heap.size + 2]) (w := w8) (by (repeat' (first | with_reducible exact Tc | with_reducible exact Chg.refl _ _ | with_reducible refine Chg.alloc ?_ _ | with_reducible refine Chg.drew ?_ | with_reducible refine Chg.putRow ?_ _ _ _ (.inl (List.mem_singleton.2 rfl))))) rE (by simp), Chg.keep (l := [w.heap.size + 2]) (w := w8) (by (repeat' (first | with_reducible exact Tc | with_reducible exact Chg.refl _ _ | with_reducible refine Chg.alloc ?_ _ | with_reducible refine Chg.drew ?_ | with_reducible refine Chg.putRow ?_ _ _ _ (.inl (List.mem_singleton.2 rfl))))) rM (by simp)⟩)
    (first
      | (go_at_call 37; refine (rtell_any _ _ _ _ x.h _).mono ?_; rintro e w' ⟨rfl, cc⟩; (first | (have Tc : Chg [w.heap.size + 2] w8 _ := Chg.trans ((Chg.refl [w.heap.size + 2] w8).drew) (Chg.mono cc (fun _ h => absurd h List.not_mem_nil))) | (have Tc : Chg [w.heap.size + 2] w8 _ := Chg.trans (Chg.alloc ((Chg.refl [w.heap.size + 2] w8).drew) _) (Chg.mono cc (fun _ h => absurd h List.not_mem_nil))) | (have Tc : Chg [w.heap.size + 2] w8 _ := Chg.trans (Chg.putRow ((Chg.refl [w.heap.size + 2] w8).drew) (w.heap.size + 2) 0 _ (.inl (List.mem_singleton.2 rfl))) (Chg.mono cc (fun _ h => absurd h List.not_mem_nil))) | (have Tc : Chg [w.heap.size + 2] w8 _ := Chg.trans (Chg.putRow (Chg.alloc ((Chg.refl [w.heap.size + 2] w8).drew) _) (w.heap.size + 2) 0 _ (.inl (List.mem_singleton.2 rfl))) (Chg.mono cc (fun _ h => absurd h List.not_mem_nil))) | (have Tc : Chg [w.heap.size + 2] w8 _ := Chg.trans (Chg.alloc (Chg.putRow ((Chg.refl [w.heap.size + 2] w8).drew) (w.heap.size + 2) 0 _ (.inl (List.mem_singleton.2 rfl))) _) (Chg.mono cc (fun _ h => absurd h List.not_mem_nil)))); (first | (have rRc := cc.keep rR List.not_mem_nil) | (have rRc := Chg.keep ((Chg.refl [] _).alloc _ |>.trans cc) rR List.not_mem_nil) | (have rRc := cc.keep (put_row rR rfl) List.not_mem_nil))))
  all_goals
    go_wp2_with fail
    refine bodyPost_ret (results_er3 (by rfl) _ _ (w.heap.size + 2) (x.setSh (x.sh ||| bitM c)) (0, 0) (by rfl) (by first | (simp [rRc]; done)) _ _ (by rfl) (by rfl)) (by rfl) ?_
    first
      | exact En3r.L1 C8 Tc oR (by omega)
      | exact En3r.L1p C8 Tc oR (by omega)
      | exact En3r.L2 C8 Tc oR (by omega)
      | exact En3r.L1 C8 (Chg.drew (Chg.refl [w.heap.size + 2] w8)) oR (by omega)
      | exact En3r.L1p C8 (Chg.drew (Chg.refl [w.heap.size + 2] w8)) oR (by omega)
      | exact En3r.L2 C8 (Chg.drew (Chg.refl [w.heap.size + 2] w8)) oR (by omega)

theorem oth_eq (x : En) (c : Int) : ((bitM x.ow ||| x.sh) &&& ~~~(bitM c)) = (holders x &&& ~~~(bitM c)) := by unfold holders; rw [or_bits]
set_option maxHeartbeats 4000000 in
set_option maxRecDepth 100000 in
theorem rask_M1 (x : En) (c : Int) (m : Ms) (w : World) (o00 : Old w 0) (g1 : goodE x = true) (g2 : isC c = true) (g3 : mg m = true) (g4 : asksB m.kd = true) (hb : x.bu = 0) (hh : x.he = true) (h1 : ((bitM x.ow ||| x.sh) &&& ~~~(bitM c)) = 0#8) (hk : m.kd = 2) : Calls Tryd.prog 10 #[.agg (ec x), .int .i64 c, .agg (msc m)] w (En3r w (getME x c m, 0)) := by
  have t1 : (x.bu != 0) = false := by simp [hb]
  have hx8 := x.h
  have hm8 := m.h
  have s1 : (m.kd == 1) = false := by simp [hk]
  have s2 : (m.kd == 2) = true := by simp [hk]
  have hX : (holders x &&& ~~~(bitM c)) = 0#8 := by rw [← oth_eq]; exact h1
  have e1 : (getME x c m, (0 : Int)) = ((overE ((x.setOw c).setSh 0#8), [⟨c, ms5 10 m.li x.l x.h⟩]), 0) := by
    rw [over_own c g1 hb]
    simp [getME, ownedE, tell_one, g2, hX]
  rw [e1]
  clear e1 hX
  have q3 : (((bitM x.ow ||| x.sh) &&& ~~~(bitM c)) == 0#8) = true := by simp [h1]
  clear h1
  clear hk
  go_enter Tryd.func10, Tryd.ntmps10
  try dsimp only [List.append]
  go_wp2_with fail
  refine gen_calls3 (w := w) (b1 := w.heap.size) (x1 := .cells (ec (x)) 33 (0, 0)) (b2 := w.heap.size + 1) (x2 := .cells (msc m) 28 (0, 0)) (b3 := w.heap.size + 2) (x3 := .cells (ec (enZ)) 33 (0, 0)) (by (repeat' (first | with_reducible exact Chg.refl _ _ | with_reducible assumption | with_reducible refine Chg.drew ?_ | with_reducible refine Chg.drewN ?_ _ | with_reducible refine Chg.alloc ?_ _ | with_reducible refine Chg.putRow ?_ _ _ _ (.inr ?_) | with_reducible refine Chg.setCell ?_ _ _ _ (.inr ?_)  | (show _ ≤ _; first | exact Nat.le_refl _ | omega | (simp; done))))) (by simp [*]) (by simp [*]) (by simp [*]) fun w1 C1 rE rM rR => ?_
  have oE := old rE
  have oM := old rM
  have oR := old rR
  refine (rgood_at x _ g1 w1).mono ?_
  rintro e w3 ⟨rfl, c3⟩
  have rE3 := c3.keep rE (by simp)
  have rM3 := c3.keep rM (by simp)
  have rR3 := c3.keep rR (by simp)
  have C3 := C1.trans c3
  clear rE rM rR oE oM oR C1 c3
  have oE3 := old rE3
  have oM3 := old rM3
  have oR3 := old rR3
  go_wp2_with ((go_at_call 32; refine (rcore_at _ _ g2 _).mono ?_; rintro e w' ⟨rfl, rfl⟩))
  refine (rmgood_at m _ g3 w3).mono ?_
  rintro e w4 ⟨rfl, c4⟩
  have rE4 := c4.keep rE3 (by simp)
  have rM4 := c4.keep rM3 (by simp)
  have rR4 := c4.keep rR3 (by simp)
  have C4 := C3.trans c4
  clear rE3 rM3 rR3 oE3 oM3 oR3 C3 c4
  have oE4 := old rE4
  have oM4 := old rM4
  have oR4 := old rR4
  clear g1 g2 g3
  go_upto_region 17 with (first | (go_at_call 34; refine (rasks_at _ _ g4 _).mono ?_; rintro e w' ⟨rfl, rfl⟩) | (go_at_call 26; refine (rbit_any _ _).mono ?_; rintro e w' ⟨rfl, rfl⟩))
  have hx : ∀ y : Aft w4.heap.size w4, y.w.heap[w.heap.size]? = some (.cells (ec (x)) 33 (0, 0)) := fun y => (y.block oE4.lt).trans rE4
  have hxm : ∀ y : Aft w4.heap.size w4, y.w.heap[w.heap.size + 1]? = some (.cells (msc m) 28 (0, 0)) := fun y => (y.block oM4.lt).trans rM4
  have hxr : ∀ y : Aft w4.heap.size w4, y.w.heap[w.heap.size + 2]? = some (.cells (ec (enZ)) 33 (0, 0)) := fun y => (y.block oR4.lt).trans rR4
  refine wp_region_aft w4.heap.size (by kernel_rfl) (by kernel_rfl) ?_
  repeat (go_big_quiet_step (first
    | (go_at_call 36; exact calls_aftR (Nat.le_refl _) (rmine_any x _))))
  refine wpQuiet_nil ?_
  rintro _ ⟨y, rfl⟩
  have rE := hx y
  have rM := hxm y
  have rR := hxr y
  have C8 := C4.trans (Below.chg y.below (Nat.le_refl _))
  generalize hw8 : y.w = w8 at *
  clear hx hxm hxr rE4 rM4 rR4 oE4 oM4 oR4 C4 hw8 y
  have oE := old rE
  have oM := old rM
  have oR := old rR
  go_upto_region 19 with fail
  go_region_held3 (fun w' => w'.heap[w.heap.size]? = some (.cells (ec (x)) 33 (0, 0)) ∧ w'.heap[w.heap.size + 1]? = some (.cells (msc m) 28 (0, 0))) (exact ⟨Chg.keep (l := [w.heap.size + 2]) (w := w8) (by (repeat' (first | with_reducible exact Tb | with_reducible exact Tc | with_reducible exact Chg.refl _ _ | with_reducible refine Chg.alloc ?_ _ | with_reducible refine Chg.drew ?_ | with_reducible refine Chg.putRow ?_ _ _ _ (.inl (List.mem_singleton.2 rfl))))) rE (by simp), Chg.keep (l := [w.heap.size + 2]) (w := w8) (by (repeat' (first | with_reducible exact Tb | with_reducible exact Tc | with_reducible exact Chg.refl _ _ | with_reducible refine Chg.alloc ?_ _ | with_reducible refine Chg.drew ?_ | with_reducible refine Chg.putRow ?_ _ _ _ (.inl (List.mem_singleton.2 rfl))))) rM (by simp)⟩)
    (first
      | (go_at_call 38; refine (rowned_any _ _ _).mono ?_; rintro e w' ⟨rfl, cb⟩; (first | (have Tb : Chg [w.heap.size + 2] w8 _ := Chg.trans ((Chg.refl [w.heap.size + 2] w8).drew) (Chg.mono cb (fun _ h => absurd h List.not_mem_nil))) | (have Tb : Chg [w.heap.size + 2] w8 _ := Chg.trans (Chg.alloc ((Chg.refl [w.heap.size + 2] w8).drew) _) (Chg.mono cb (fun _ h => absurd h List.not_mem_nil))) | (have Tb : Chg [w.heap.size + 2] w8 _ := Chg.trans (Chg.putRow ((Chg.refl [w.heap.size + 2] w8).drew) (w.heap.size + 2) 0 _ (.inl (List.mem_singleton.2 rfl))) (Chg.mono cb (fun _ h => absurd h List.not_mem_nil))) | (have Tb : Chg [w.heap.size + 2] w8 _ := Chg.trans (Chg.putRow (Chg.alloc ((Chg.refl [w.heap.size + 2] w8).drew) _) (w.heap.size + 2) 0 _ (.inl (List.mem_singleton.2 rfl))) (Chg.mono cb (fun _ h => absurd h List.not_mem_nil))) | (have Tb : Chg [w.heap.size + 2] w8 _ := Chg.trans (Chg.alloc (Chg.putRow ((Chg.refl [w.heap.size + 2] w8).drew) (w.heap.size + 2) 0 _ (.inl (List.mem_singleton.2 rfl))) _) (Chg.mono cb (fun _ h => absurd h List.not_mem_nil))) | (have Tb : Chg [w.heap.size + 2] w8 _ := Chg.trans Tc (Chg.mono cb (fun _ h => absurd h List.not_mem_nil))) | (have Tb : Chg [w.heap.size + 2] w8 _ := Chg.trans (Chg.alloc Tc _) (Chg.mono cb (fun _ h => absurd h List.not_mem_nil))) | (have Tb : Chg [w.heap.size + 2] w8 _ := Chg.trans (Chg.putRow Tc (w.heap.size + 2) 0 _ (.inl (List.mem_singleton.2 rfl))) (Chg.mono cb (fun _ h => absurd h List.not_mem_nil))) | (have Tb : Chg [w.heap.size + 2] w8 _ := Chg.trans (Chg.putRow (Chg.alloc Tc _) (w.heap.size + 2) 0 _ (.inl (List.mem_singleton.2 rfl))) (Chg.mono cb (fun _ h => absurd h List.not_mem_nil))) | (have Tb : Chg [w.heap.size + 2] w8 _ := Chg.trans (Chg.alloc (Chg.putRow Tc (w.heap.size + 2) 0 _ (.inl (List.mem_singleton.2 rfl))) _) (Chg.mono cb (fun _ h => absurd h List.not_mem_nil)))); (first | (have rRb := cb.keep rR List.not_mem_nil) | (have rRb := cb.keep rRc List.not_mem_nil) | (have rRb := Chg.keep ((Chg.refl [] _).alloc _ |>.trans cb) rR List.not_mem_nil) | (have rRb := Chg.keep ((Chg.refl [] _).alloc _ |>.trans cb) rRc List.not_mem_nil) | (have rRb := cb.keep (put_row rR rfl) List.not_mem_nil) | (have rRb := cb.keep (put_row rRc rfl) List.not_mem_nil)))
      | (go_at_call 37; refine (rtell_any _ _ _ _ x.h _).mono ?_; rintro e w' ⟨rfl, cc⟩; (first | (have Tc : Chg [w.heap.size + 2] w8 _ := Chg.trans ((Chg.refl [w.heap.size + 2] w8).drew) (Chg.mono cc (fun _ h => absurd h List.not_mem_nil))) | (have Tc : Chg [w.heap.size + 2] w8 _ := Chg.trans (Chg.alloc ((Chg.refl [w.heap.size + 2] w8).drew) _) (Chg.mono cc (fun _ h => absurd h List.not_mem_nil))) | (have Tc : Chg [w.heap.size + 2] w8 _ := Chg.trans (Chg.putRow ((Chg.refl [w.heap.size + 2] w8).drew) (w.heap.size + 2) 0 _ (.inl (List.mem_singleton.2 rfl))) (Chg.mono cc (fun _ h => absurd h List.not_mem_nil))) | (have Tc : Chg [w.heap.size + 2] w8 _ := Chg.trans (Chg.putRow (Chg.alloc ((Chg.refl [w.heap.size + 2] w8).drew) _) (w.heap.size + 2) 0 _ (.inl (List.mem_singleton.2 rfl))) (Chg.mono cc (fun _ h => absurd h List.not_mem_nil))) | (have Tc : Chg [w.heap.size + 2] w8 _ := Chg.trans (Chg.alloc (Chg.putRow ((Chg.refl [w.heap.size + 2] w8).drew) (w.heap.size + 2) 0 _ (.inl (List.mem_singleton.2 rfl))) _) (Chg.mono cc (fun _ h => absurd h List.not_mem_nil))) | (have Tc : Chg [w.heap.size + 2] w8 _ := Chg.trans Tb (Chg.mono cc (fun _ h => absurd h List.not_mem_nil))) | (have Tc : Chg [w.heap.size + 2] w8 _ := Chg.trans (Chg.alloc Tb _) (Chg.mono cc (fun _ h => absurd h List.not_mem_nil))) | (have Tc : Chg [w.heap.size + 2] w8 _ := Chg.trans (Chg.putRow Tb (w.heap.size + 2) 0 _ (.inl (List.mem_singleton.2 rfl))) (Chg.mono cc (fun _ h => absurd h List.not_mem_nil))) | (have Tc : Chg [w.heap.size + 2] w8 _ := Chg.trans (Chg.putRow (Chg.alloc Tb _) (w.heap.size + 2) 0 _ (.inl (List.mem_singleton.2 rfl))) (Chg.mono cc (fun _ h => absurd h List.not_mem_nil))) | (have Tc : Chg [w.heap.size + 2] w8 _ := Chg.trans (Chg.alloc (Chg.putRow Tb (w.heap.size + 2) 0 _ (.inl (List.mem_singleton.2 rfl))) _) (Chg.mono cc (fun _ h => absurd h List.not_mem_nil)))); (first | (have rRc := cc.keep rR List.not_mem_nil) | (have rRc := cc.keep rRb List.not_mem_nil) | (have rRc := Chg.keep ((Chg.refl [] _).alloc _ |>.trans cc) rR List.not_mem_nil) | (have rRc := Chg.keep ((Chg.refl [] _).alloc _ |>.trans cc) rRb List.not_mem_nil) | (have rRc := cc.keep (put_row rR rfl) List.not_mem_nil) | (have rRc := cc.keep (put_row rRb rfl) List.not_mem_nil))))
  all_goals
    go_wp2_with fail
    refine bodyPost_ret (results_er3 (by rfl) _ _ (w.heap.size + 2) (overE ((x.setOw c).setSh 0#8)) (0, 0) (by rfl) (by first | (simp [rRc]; done) | (simp [rRb]; done)) _ _ (by rfl) (by rfl)) (by rfl) ?_
    first
      | exact En3r.L1 C8 Tb oR (by omega)
      | exact En3r.L1p C8 Tb oR (by omega)
      | exact En3r.L2 C8 Tb oR (by omega)
      | exact En3r.L1 C8 Tc oR (by omega)
      | exact En3r.L1p C8 Tc oR (by omega)
      | exact En3r.L2 C8 Tc oR (by omega)
      | exact En3r.L3 C8 Tb oR (by omega) cb
      | exact En3r.L3 C8 Tc oR (by omega) cb
      | exact En3r.L1 C8 (Chg.drew (Chg.refl [w.heap.size + 2] w8)) oR (by omega)
      | exact En3r.L1p C8 (Chg.drew (Chg.refl [w.heap.size + 2] w8)) oR (by omega)
      | exact En3r.L2 C8 (Chg.drew (Chg.refl [w.heap.size + 2] w8)) oR (by omega)
set_option maxHeartbeats 4000000 in
set_option maxRecDepth 100000 in
theorem rask_M2 (x : En) (c : Int) (m : Ms) (w : World) (o00 : Old w 0) (g1 : goodE x = true) (g2 : isC c = true) (g3 : mg m = true) (g4 : asksB m.kd = true) (hb : x.bu = 0) (hh : x.he = true) (h1 : ¬ ((bitM x.ow ||| x.sh) &&& ~~~(bitM c)) = 0#8) (hk : m.kd = 2) : Calls Tryd.prog 10 #[.agg (ec x), .int .i64 c, .agg (msc m)] w (En3r w (getME x c m, 0)) := by
  have t1 : (x.bu != 0) = false := by simp [hb]
  have hx8 := x.h
  have hm8 := m.h
  have s1 : (m.kd == 1) = false := by simp [hk]
  have s2 : (m.kd == 2) = true := by simp [hk]
  have e1 : (getME x c m, (0 : Int)) = ((busyE x 2 c ((bitM x.ow ||| x.sh) &&& ~~~(bitM c)), tellL ((bitM x.ow ||| x.sh) &&& ~~~(bitM c)) (ms4 12 m.li false false)), 0) := by
    have hX : ¬ (holders x &&& ~~~(bitM c)) = 0#8 := by rw [← oth_eq]; exact h1
    simp [getME, waitE, busyE, hk, hX, oth_eq]
  have q3 : (((bitM x.ow ||| x.sh) &&& ~~~(bitM c)) == 0#8) = false := by simp [h1]
  rw [e1]
  clear e1 h1
  generalize hoo : ((bitM x.ow ||| x.sh) &&& ~~~(bitM c)) = o at *
  clear hk
  go_enter Tryd.func10, Tryd.ntmps10
  try dsimp only [List.append]
  go_wp2_with fail
  refine gen_calls3 (w := w) (b1 := w.heap.size) (x1 := .cells (ec (x)) 33 (0, 0)) (b2 := w.heap.size + 1) (x2 := .cells (msc m) 28 (0, 0)) (b3 := w.heap.size + 2) (x3 := .cells (ec (enZ)) 33 (0, 0)) (by (repeat' (first | with_reducible exact Chg.refl _ _ | with_reducible assumption | with_reducible refine Chg.drew ?_ | with_reducible refine Chg.drewN ?_ _ | with_reducible refine Chg.alloc ?_ _ | with_reducible refine Chg.putRow ?_ _ _ _ (.inr ?_) | with_reducible refine Chg.setCell ?_ _ _ _ (.inr ?_)  | (show _ ≤ _; first | exact Nat.le_refl _ | omega | (simp; done))))) (by simp [*]) (by simp [*]) (by simp [*]) fun w1 C1 rE rM rR => ?_
  have oE := old rE
  have oM := old rM
  have oR := old rR
  refine (rgood_at x _ g1 w1).mono ?_
  rintro e w3 ⟨rfl, c3⟩
  have rE3 := c3.keep rE (by simp)
  have rM3 := c3.keep rM (by simp)
  have rR3 := c3.keep rR (by simp)
  have C3 := C1.trans c3
  clear rE rM rR oE oM oR C1 c3
  have oE3 := old rE3
  have oM3 := old rM3
  have oR3 := old rR3
  go_wp2_with ((go_at_call 32; refine (rcore_at _ _ g2 _).mono ?_; rintro e w' ⟨rfl, rfl⟩))
  refine (rmgood_at m _ g3 w3).mono ?_
  rintro e w4 ⟨rfl, c4⟩
  have rE4 := c4.keep rE3 (by simp)
  have rM4 := c4.keep rM3 (by simp)
  have rR4 := c4.keep rR3 (by simp)
  have C4 := C3.trans c4
  clear rE3 rM3 rR3 oE3 oM3 oR3 C3 c4
  have oE4 := old rE4
  have oM4 := old rM4
  have oR4 := old rR4
  clear g1 g2 g3
  go_upto_region 17 with (first | (go_at_call 34; refine (rasks_at _ _ g4 _).mono ?_; rintro e w' ⟨rfl, rfl⟩) | (go_at_call 26; refine (rbit_any _ _).mono ?_; rintro e w' ⟨rfl, rfl⟩))
  have hx : ∀ y : Aft w4.heap.size w4, y.w.heap[w.heap.size]? = some (.cells (ec (x)) 33 (0, 0)) := fun y => (y.block oE4.lt).trans rE4
  have hxm : ∀ y : Aft w4.heap.size w4, y.w.heap[w.heap.size + 1]? = some (.cells (msc m) 28 (0, 0)) := fun y => (y.block oM4.lt).trans rM4
  have hxr : ∀ y : Aft w4.heap.size w4, y.w.heap[w.heap.size + 2]? = some (.cells (ec (enZ)) 33 (0, 0)) := fun y => (y.block oR4.lt).trans rR4
  refine wp_region_aft w4.heap.size (by kernel_rfl) (by kernel_rfl) ?_
  repeat (go_big_quiet_step (first
    | (go_at_call 36; exact calls_aftR (Nat.le_refl _) (rmine_any x _))))
  refine wpQuiet_nil ?_
  rintro _ ⟨y, rfl⟩
  have rE := hx y
  have rM := hxm y
  have rR := hxr y
  have C8 := C4.trans (Below.chg y.below (Nat.le_refl _))
  generalize hw8 : y.w = w8 at *
  clear hx hxm hxr rE4 rM4 rR4 oE4 oM4 oR4 C4 hw8 y
  have oE := old rE
  have oM := old rM
  have oR := old rR
  have o0 := o00.chg C8
  go_upto_region 20 with fail
  go_region_held3 (fun w' => w'.heap[w.heap.size]? = some (.cells (ec (x)) 33 (0, 0)) ∧ w'.heap[w.heap.size + 1]? = some (.cells (msc m) 28 (0, 0))) (exact ⟨Chg.keep (l := [w.heap.size + 2]) (w := w8) (by (repeat' (first | with_reducible exact Tb | with_reducible exact Td | with_reducible exact Chg.refl _ _ | with_reducible refine Chg.alloc ?_ _ | with_reducible refine Chg.drew ?_ | with_reducible refine Chg.putRow ?_ _ _ _ (.inl (List.mem_singleton.2 rfl))))) rE (by simp), Chg.keep (l := [w.heap.size + 2]) (w := w8) (by (repeat' (first | with_reducible exact Tb | with_reducible exact Td | with_reducible exact Chg.refl _ _ | with_reducible refine Chg.alloc ?_ _ | with_reducible refine Chg.drew ?_ | with_reducible refine Chg.putRow ?_ _ _ _ (.inl (List.mem_singleton.2 rfl))))) rM (by simp)⟩)
    (first
      | (go_at_call 35; refine (rbusy_any _ _ _ _ _).mono ?_; rintro e w' ⟨rfl, cb⟩; (first | (have Tb : Chg [w.heap.size + 2] w8 _ := Chg.trans ((Chg.refl [w.heap.size + 2] w8).drew) (Chg.mono cb (fun _ h => absurd h List.not_mem_nil))) | (have Tb : Chg [w.heap.size + 2] w8 _ := Chg.trans (Chg.alloc ((Chg.refl [w.heap.size + 2] w8).drew) _) (Chg.mono cb (fun _ h => absurd h List.not_mem_nil))) | (have Tb : Chg [w.heap.size + 2] w8 _ := Chg.trans (Chg.putRow ((Chg.refl [w.heap.size + 2] w8).drew) (w.heap.size + 2) 0 _ (.inl (List.mem_singleton.2 rfl))) (Chg.mono cb (fun _ h => absurd h List.not_mem_nil))) | (have Tb : Chg [w.heap.size + 2] w8 _ := Chg.trans (Chg.putRow (Chg.alloc ((Chg.refl [w.heap.size + 2] w8).drew) _) (w.heap.size + 2) 0 _ (.inl (List.mem_singleton.2 rfl))) (Chg.mono cb (fun _ h => absurd h List.not_mem_nil))) | (have Tb : Chg [w.heap.size + 2] w8 _ := Chg.trans (Chg.alloc (Chg.putRow ((Chg.refl [w.heap.size + 2] w8).drew) (w.heap.size + 2) 0 _ (.inl (List.mem_singleton.2 rfl))) _) (Chg.mono cb (fun _ h => absurd h List.not_mem_nil))) | (have Tb : Chg [w.heap.size + 2] w8 _ := Chg.trans Td (Chg.mono cb (fun _ h => absurd h List.not_mem_nil))) | (have Tb : Chg [w.heap.size + 2] w8 _ := Chg.trans (Chg.alloc Td _) (Chg.mono cb (fun _ h => absurd h List.not_mem_nil))) | (have Tb : Chg [w.heap.size + 2] w8 _ := Chg.trans (Chg.putRow Td (w.heap.size + 2) 0 _ (.inl (List.mem_singleton.2 rfl))) (Chg.mono cb (fun _ h => absurd h List.not_mem_nil))) | (have Tb : Chg [w.heap.size + 2] w8 _ := Chg.trans (Chg.putRow (Chg.alloc Td _) (w.heap.size + 2) 0 _ (.inl (List.mem_singleton.2 rfl))) (Chg.mono cb (fun _ h => absurd h List.not_mem_nil))) | (have Tb : Chg [w.heap.size + 2] w8 _ := Chg.trans (Chg.alloc (Chg.putRow Td (w.heap.size + 2) 0 _ (.inl (List.mem_singleton.2 rfl))) _) (Chg.mono cb (fun _ h => absurd h List.not_mem_nil)))); (first | (have rRb := cb.keep rR List.not_mem_nil) | (have rRb := cb.keep rRd List.not_mem_nil) | (have rRb := Chg.keep ((Chg.refl [] _).alloc _ |>.trans cb) rR List.not_mem_nil) | (have rRb := Chg.keep ((Chg.refl [] _).alloc _ |>.trans cb) rRd List.not_mem_nil) | (have rRb := cb.keep (put_row rR rfl) List.not_mem_nil) | (have rRb := cb.keep (put_row rRd rfl) List.not_mem_nil)))
      | (go_at_call 39; refine (rall_any _ _ _ _ ?_).mono ?_; (first | exact o0 | exact Nat.lt_of_lt_of_le o0.lt (Chg.size Tb) | exact Nat.lt_of_lt_of_le o0.lt (Chg.size (Chg.putRow Tb (w.heap.size + 2) 0 _ (.inl (List.mem_singleton.2 rfl))))); rintro e w' ⟨A2, n2, rfl, hs2, hA2, cd⟩; (first | (have Td : Chg [w.heap.size + 2] w8 _ := Chg.trans ((Chg.refl [w.heap.size + 2] w8).drew) (Chg.mono cd (fun _ h => absurd h List.not_mem_nil))) | (have Td : Chg [w.heap.size + 2] w8 _ := Chg.trans (Chg.alloc ((Chg.refl [w.heap.size + 2] w8).drew) _) (Chg.mono cd (fun _ h => absurd h List.not_mem_nil))) | (have Td : Chg [w.heap.size + 2] w8 _ := Chg.trans (Chg.putRow ((Chg.refl [w.heap.size + 2] w8).drew) (w.heap.size + 2) 0 _ (.inl (List.mem_singleton.2 rfl))) (Chg.mono cd (fun _ h => absurd h List.not_mem_nil))) | (have Td : Chg [w.heap.size + 2] w8 _ := Chg.trans (Chg.putRow (Chg.alloc ((Chg.refl [w.heap.size + 2] w8).drew) _) (w.heap.size + 2) 0 _ (.inl (List.mem_singleton.2 rfl))) (Chg.mono cd (fun _ h => absurd h List.not_mem_nil))) | (have Td : Chg [w.heap.size + 2] w8 _ := Chg.trans (Chg.alloc (Chg.putRow ((Chg.refl [w.heap.size + 2] w8).drew) (w.heap.size + 2) 0 _ (.inl (List.mem_singleton.2 rfl))) _) (Chg.mono cd (fun _ h => absurd h List.not_mem_nil))) | (have Td : Chg [w.heap.size + 2] w8 _ := Chg.trans Tb (Chg.mono cd (fun _ h => absurd h List.not_mem_nil))) | (have Td : Chg [w.heap.size + 2] w8 _ := Chg.trans (Chg.alloc Tb _) (Chg.mono cd (fun _ h => absurd h List.not_mem_nil))) | (have Td : Chg [w.heap.size + 2] w8 _ := Chg.trans (Chg.putRow Tb (w.heap.size + 2) 0 _ (.inl (List.mem_singleton.2 rfl))) (Chg.mono cd (fun _ h => absurd h List.not_mem_nil))) | (have Td : Chg [w.heap.size + 2] w8 _ := Chg.trans (Chg.putRow (Chg.alloc Tb _) (w.heap.size + 2) 0 _ (.inl (List.mem_singleton.2 rfl))) (Chg.mono cd (fun _ h => absurd h List.not_mem_nil))) | (have Td : Chg [w.heap.size + 2] w8 _ := Chg.trans (Chg.alloc (Chg.putRow Tb (w.heap.size + 2) 0 _ (.inl (List.mem_singleton.2 rfl))) _) (Chg.mono cd (fun _ h => absurd h List.not_mem_nil)))); (first | (have rRd := cd.keep rR List.not_mem_nil) | (have rRd := cd.keep rRb List.not_mem_nil) | (have rRd := Chg.keep ((Chg.refl [] _).alloc _ |>.trans cd) rR List.not_mem_nil) | (have rRd := Chg.keep ((Chg.refl [] _).alloc _ |>.trans cd) rRb List.not_mem_nil) | (have rRd := cd.keep (put_row rR rfl) List.not_mem_nil) | (have rRd := cd.keep (put_row rRb rfl) List.not_mem_nil)); (first | (have hA3 : ∀ a, A2 = some a → w8.heap.size ≤ a.block := fun a ha => Nat.le_trans (Chg.size Tb) (hA2 a ha)) | (have hA3 : ∀ a, A2 = some a → w8.heap.size ≤ a.block := fun a ha => Nat.le_trans (Chg.size (Chg.putRow Tb (w.heap.size + 2) 0 _ (.inl (List.mem_singleton.2 rfl)))) (hA2 a ha)) | (have hA3 : ∀ a, A2 = some a → w8.heap.size ≤ a.block := fun a ha => hA2 a ha) | (have hA3 : ∀ a, A2 = some a → w8.heap.size ≤ a.block := (by intro a ha; have := hA2 a ha; simp at this; omega)))))
  all_goals
    go_wp2_with fail
    refine bodyPost_ret (results_er3 (by rfl) _ _ (w.heap.size + 2) (busyE x 2 c o) (0, 0) (by rfl) (by first | (simp [rRd]; done) | (simp [rRb]; done)) _ _ (by rfl) (by rfl)) (by rfl) ?_
    first
      | exact En3r.S C8 oR (by omega) hs2 hA3 Td (Chg.refl _ _)
      | exact En3r.S C8 oR (by omega) hs2 hA3 Td (Chg.putRow (Chg.refl _ _) (w.heap.size + 2) 0 _ (.inl (List.mem_singleton.2 rfl)))
      | exact En3r.S C8 oR (by omega) hs2 hA3 Td (Chg.mono cb (fun _ h => absurd h List.not_mem_nil))
      | exact En3r.S C8 oR (by omega) hs2 hA3 Td (Chg.putRow (Chg.mono cb (fun _ h => absurd h List.not_mem_nil)) (w.heap.size + 2) 0 _ (.inl (List.mem_singleton.2 rfl)))
set_option maxHeartbeats 4000000 in
set_option maxRecDepth 100000 in
theorem rask_P1 (x : En) (c : Int) (m : Ms) (w : World) (o00 : Old w 0) (g1 : goodE x = true) (g2 : isC c = true) (g3 : mg m = true) (g4 : asksB m.kd = true) (hb : x.bu = 0) (hh : x.he = true) (h1 : x.ow = c) (h2 : m.di = true) (hk : m.kd = 3) : Calls Tryd.prog 10 #[.agg (ec x), .int .i64 c, .agg (msc m)] w (En3r w (putE x c m, 0)) := by
  have t1 : (x.bu != 0) = false := by simp [hb]
  have hx8 := x.h
  have hm8 := m.h
  have s1 : (m.kd == 1) = false := by simp [hk]
  have s2 : (m.kd == 2) = false := by simp [hk]
  have s3 : (m.kd == 3) = true := by simp [hk]
  have e1 : (putE x c m, (0 : Int)) = ((((x.setOw (-1)).setL m.l m.h).setDi true, [⟨c, ms4 11 m.li false false⟩]), 0) := by
    have hs : x.sh = 0#8 := by
      rcases good_ow g1 with h | ⟨_, h⟩
      · rw [h1] at h; rw [h] at g2; simp [isC] at g2
      · exact h
    simp [putE, withoutE, writtenE, h1, h2, tell_one, g2, hs, En.setOw, En.setSh, En.setL, En.setDi]
  have q1 : (x.ow == c) = true := by simp [h1]
  rw [e1]
  clear e1 h1
  clear hk
  go_enter Tryd.func10, Tryd.ntmps10
  try dsimp only [List.append]
  go_wp2_with fail
  refine gen_calls3 (w := w) (b1 := w.heap.size) (x1 := .cells (ec (x)) 33 (0, 0)) (b2 := w.heap.size + 1) (x2 := .cells (msc m) 28 (0, 0)) (b3 := w.heap.size + 2) (x3 := .cells (ec (enZ)) 33 (0, 0)) (by (repeat' (first | with_reducible exact Chg.refl _ _ | with_reducible assumption | with_reducible refine Chg.drew ?_ | with_reducible refine Chg.drewN ?_ _ | with_reducible refine Chg.alloc ?_ _ | with_reducible refine Chg.putRow ?_ _ _ _ (.inr ?_) | with_reducible refine Chg.setCell ?_ _ _ _ (.inr ?_)  | (show _ ≤ _; first | exact Nat.le_refl _ | omega | (simp; done))))) (by simp [*]) (by simp [*]) (by simp [*]) fun w1 C1 rE rM rR => ?_
  have oE := old rE
  have oM := old rM
  have oR := old rR
  refine (rgood_at x _ g1 w1).mono ?_
  rintro e w3 ⟨rfl, c3⟩
  have rE3 := c3.keep rE (by simp)
  have rM3 := c3.keep rM (by simp)
  have rR3 := c3.keep rR (by simp)
  have C3 := C1.trans c3
  clear rE rM rR oE oM oR C1 c3
  have oE3 := old rE3
  have oM3 := old rM3
  have oR3 := old rR3
  go_wp2_with ((go_at_call 32; refine (rcore_at _ _ g2 _).mono ?_; rintro e w' ⟨rfl, rfl⟩))
  refine (rmgood_at m _ g3 w3).mono ?_
  rintro e w4 ⟨rfl, c4⟩
  have rE4 := c4.keep rE3 (by simp)
  have rM4 := c4.keep rM3 (by simp)
  have rR4 := c4.keep rR3 (by simp)
  have C4 := C3.trans c4
  clear rE3 rM3 rR3 oE3 oM3 oR3 C3 c4
  have oE4 := old rE4
  have oM4 := old rM4
  have oR4 := old rR4
  clear g1 g2 g3
  go_upto_region 27 with (first | (go_at_call 34; refine (rasks_at _ _ g4 _).mono ?_; rintro e w' ⟨rfl, rfl⟩) | (go_at_call 26; refine (rbit_any _ _).mono ?_; rintro e w' ⟨rfl, rfl⟩))
  refine gen_world3 (w := w) (b1 := w.heap.size) (x1 := .cells (ec (((x.setOw (-1)).setL m.l m.h).setDi true)) 33 (0, 0)) (b2 := w.heap.size + 1) (x2 := .cells (msc m) 28 (0, 0)) (b3 := w.heap.size + 2) (x3 := .cells (ec (enZ)) 33 (0, 0)) (by (repeat' (first | with_reducible exact Chg.refl _ _ | with_reducible assumption | with_reducible refine Chg.drew ?_ | with_reducible refine Chg.drewN ?_ _ | with_reducible refine Chg.alloc ?_ _ | with_reducible refine Chg.putRow ?_ _ _ _ (.inr ?_) | with_reducible refine Chg.setCell ?_ _ _ _ (.inr ?_)  | (show _ ≤ _; first | exact Nat.le_refl _ | omega | (simp; done))))) (by simp (maxDischargeDepth := 8) [rE4, m.h]) (by simp (maxDischargeDepth := 8) [rE4, rM4, m.h]) (by simp (maxDischargeDepth := 8) [rE4, rR4, m.h]) fun w8 C8 rE rM rR => ?_
  have oE := old rE
  have oM := old rM
  have oR := old rR
  go_region_held3 (fun w' => w'.heap[w.heap.size]? = some (.cells (ec (((x.setOw (-1)).setL m.l m.h).setDi true)) 33 (0, 0)) ∧ w'.heap[w.heap.size + 1]? = some (.cells (msc m) 28 (0, 0))) (exact ⟨Chg.keep (l := [w.heap.size + 2]) (w := w8) (by (repeat' (first | with_reducible exact Tc | with_reducible exact Chg.refl _ _ | with_reducible refine Chg.alloc ?_ _ | with_reducible refine Chg.drew ?_ | with_reducible refine Chg.putRow ?_ _ _ _ (.inl (List.mem_singleton.2 rfl))))) rE (by simp), Chg.keep (l := [w.heap.size + 2]) (w := w8) (by (repeat' (first | with_reducible exact Tc | with_reducible exact Chg.refl _ _ | with_reducible refine Chg.alloc ?_ _ | with_reducible refine Chg.drew ?_ | with_reducible refine Chg.putRow ?_ _ _ _ (.inl (List.mem_singleton.2 rfl))))) rM (by simp)⟩)
    (first
      | (go_at_call 37; refine (rtell0_any _ _ _ _).mono ?_; rintro e w' ⟨rfl, cc⟩; (first | (have Tc : Chg [w.heap.size + 2] w8 _ := Chg.trans ((Chg.refl [w.heap.size + 2] w8).drew) (Chg.mono cc (fun _ h => absurd h List.not_mem_nil))) | (have Tc : Chg [w.heap.size + 2] w8 _ := Chg.trans (Chg.alloc ((Chg.refl [w.heap.size + 2] w8).drew) _) (Chg.mono cc (fun _ h => absurd h List.not_mem_nil))) | (have Tc : Chg [w.heap.size + 2] w8 _ := Chg.trans (Chg.putRow ((Chg.refl [w.heap.size + 2] w8).drew) (w.heap.size + 2) 0 _ (.inl (List.mem_singleton.2 rfl))) (Chg.mono cc (fun _ h => absurd h List.not_mem_nil))) | (have Tc : Chg [w.heap.size + 2] w8 _ := Chg.trans (Chg.putRow (Chg.alloc ((Chg.refl [w.heap.size + 2] w8).drew) _) (w.heap.size + 2) 0 _ (.inl (List.mem_singleton.2 rfl))) (Chg.mono cc (fun _ h => absurd h List.not_mem_nil))) | (have Tc : Chg [w.heap.size + 2] w8 _ := Chg.trans (Chg.alloc (Chg.putRow ((Chg.refl [w.heap.size + 2] w8).drew) (w.heap.size + 2) 0 _ (.inl (List.mem_singleton.2 rfl))) _) (Chg.mono cc (fun _ h => absurd h List.not_mem_nil)))); (first | (have rRc := cc.keep rR List.not_mem_nil) | (have rRc := Chg.keep ((Chg.refl [] _).alloc _ |>.trans cc) rR List.not_mem_nil) | (have rRc := cc.keep (put_row rR rfl) List.not_mem_nil))))
  all_goals
    go_wp2_with fail
    refine bodyPost_ret (results_er3 (by rfl) _ _ (w.heap.size + 2) (((x.setOw (-1)).setL m.l m.h).setDi true) (0, 0) (by rfl) (by first | (simp [rRc]; done)) _ _ (by rfl) (by rfl)) (by rfl) ?_
    first
      | exact En3r.L1 C8 Tc oR (by omega)
      | exact En3r.L1p C8 Tc oR (by omega)
      | exact En3r.L2 C8 Tc oR (by omega)
      | exact En3r.L1 C8 (Chg.drew (Chg.refl [w.heap.size + 2] w8)) oR (by omega)
      | exact En3r.L1p C8 (Chg.drew (Chg.refl [w.heap.size + 2] w8)) oR (by omega)
      | exact En3r.L2 C8 (Chg.drew (Chg.refl [w.heap.size + 2] w8)) oR (by omega)
set_option maxHeartbeats 4000000 in
set_option maxRecDepth 100000 in
theorem rask_P2 (x : En) (c : Int) (m : Ms) (w : World) (o00 : Old w 0) (g1 : goodE x = true) (g2 : isC c = true) (g3 : mg m = true) (g4 : asksB m.kd = true) (hb : x.bu = 0) (hh : x.he = true) (h1 : x.ow = c) (h2 : m.di = false) (hk : m.kd = 3) : Calls Tryd.prog 10 #[.agg (ec x), .int .i64 c, .agg (msc m)] w (En3r w (putE x c m, 0)) := by
  have t1 : (x.bu != 0) = false := by simp [hb]
  have hx8 := x.h
  have hm8 := m.h
  have s1 : (m.kd == 1) = false := by simp [hk]
  have s2 : (m.kd == 2) = false := by simp [hk]
  have s3 : (m.kd == 3) = true := by simp [hk]
  have e1 : (putE x c m, (0 : Int)) = ((x.setOw (-1), [⟨c, ms4 11 m.li false false⟩]), 0) := by
    have hs : x.sh = 0#8 := by
      rcases good_ow g1 with h | ⟨_, h⟩
      · rw [h1] at h; rw [h] at g2; simp [isC] at g2
      · exact h
    simp [putE, withoutE, writtenE, h1, h2, tell_one, g2, hs, En.setOw, En.setSh]
  have q1 : (x.ow == c) = true := by simp [h1]
  rw [e1]
  clear e1 h1
  clear hk
  go_enter Tryd.func10, Tryd.ntmps10
  try dsimp only [List.append]
  go_wp2_with fail
  refine gen_calls3 (w := w) (b1 := w.heap.size) (x1 := .cells (ec (x)) 33 (0, 0)) (b2 := w.heap.size + 1) (x2 := .cells (msc m) 28 (0, 0)) (b3 := w.heap.size + 2) (x3 := .cells (ec (enZ)) 33 (0, 0)) (by (repeat' (first | with_reducible exact Chg.refl _ _ | with_reducible assumption | with_reducible refine Chg.drew ?_ | with_reducible refine Chg.drewN ?_ _ | with_reducible refine Chg.alloc ?_ _ | with_reducible refine Chg.putRow ?_ _ _ _ (.inr ?_) | with_reducible refine Chg.setCell ?_ _ _ _ (.inr ?_)  | (show _ ≤ _; first | exact Nat.le_refl _ | omega | (simp; done))))) (by simp [*]) (by simp [*]) (by simp [*]) fun w1 C1 rE rM rR => ?_
  have oE := old rE
  have oM := old rM
  have oR := old rR
  refine (rgood_at x _ g1 w1).mono ?_
  rintro e w3 ⟨rfl, c3⟩
  have rE3 := c3.keep rE (by simp)
  have rM3 := c3.keep rM (by simp)
  have rR3 := c3.keep rR (by simp)
  have C3 := C1.trans c3
  clear rE rM rR oE oM oR C1 c3
  have oE3 := old rE3
  have oM3 := old rM3
  have oR3 := old rR3
  go_wp2_with ((go_at_call 32; refine (rcore_at _ _ g2 _).mono ?_; rintro e w' ⟨rfl, rfl⟩))
  refine (rmgood_at m _ g3 w3).mono ?_
  rintro e w4 ⟨rfl, c4⟩
  have rE4 := c4.keep rE3 (by simp)
  have rM4 := c4.keep rM3 (by simp)
  have rR4 := c4.keep rR3 (by simp)
  have C4 := C3.trans c4
  clear rE3 rM3 rR3 oE3 oM3 oR3 C3 c4
  have oE4 := old rE4
  have oM4 := old rM4
  have oR4 := old rR4
  clear g1 g2 g3
  go_upto_region 27 with (first | (go_at_call 34; refine (rasks_at _ _ g4 _).mono ?_; rintro e w' ⟨rfl, rfl⟩) | (go_at_call 26; refine (rbit_any _ _).mono ?_; rintro e w' ⟨rfl, rfl⟩))
  refine gen_world3 (w := w) (b1 := w.heap.size) (x1 := .cells (ec (x.setOw (-1))) 33 (0, 0)) (b2 := w.heap.size + 1) (x2 := .cells (msc m) 28 (0, 0)) (b3 := w.heap.size + 2) (x3 := .cells (ec (enZ)) 33 (0, 0)) (by (repeat' (first | with_reducible exact Chg.refl _ _ | with_reducible assumption | with_reducible refine Chg.drew ?_ | with_reducible refine Chg.drewN ?_ _ | with_reducible refine Chg.alloc ?_ _ | with_reducible refine Chg.putRow ?_ _ _ _ (.inr ?_) | with_reducible refine Chg.setCell ?_ _ _ _ (.inr ?_)  | (show _ ≤ _; first | exact Nat.le_refl _ | omega | (simp; done))))) (by simp (maxDischargeDepth := 8) [rE4]) (by simp (maxDischargeDepth := 8) [rM4]) (by simp (maxDischargeDepth := 8) [rR4]) fun w8 C8 rE rM rR => ?_
  have oE := old rE
  have oM := old rM
  have oR := old rR
  go_region_held3 (fun w' => w'.heap[w.heap.size]? = some (.cells (ec (x.setOw (-1))) 33 (0, 0)) ∧ w'.heap[w.heap.size + 1]? = some (.cells (msc m) 28 (0, 0))) (exact ⟨Chg.keep (l := [w.heap.size + 2]) (w := w8) (by (repeat' (first | with_reducible exact Tc | with_reducible exact Chg.refl _ _ | with_reducible refine Chg.alloc ?_ _ | with_reducible refine Chg.drew ?_ | with_reducible refine Chg.putRow ?_ _ _ _ (.inl (List.mem_singleton.2 rfl))))) rE (by simp), Chg.keep (l := [w.heap.size + 2]) (w := w8) (by (repeat' (first | with_reducible exact Tc | with_reducible exact Chg.refl _ _ | with_reducible refine Chg.alloc ?_ _ | with_reducible refine Chg.drew ?_ | with_reducible refine Chg.putRow ?_ _ _ _ (.inl (List.mem_singleton.2 rfl))))) rM (by simp)⟩)
    (first
      | (go_at_call 37; refine (rtell0_any _ _ _ _).mono ?_; rintro e w' ⟨rfl, cc⟩; (first | (have Tc : Chg [w.heap.size + 2] w8 _ := Chg.trans ((Chg.refl [w.heap.size + 2] w8).drew) (Chg.mono cc (fun _ h => absurd h List.not_mem_nil))) | (have Tc : Chg [w.heap.size + 2] w8 _ := Chg.trans (Chg.alloc ((Chg.refl [w.heap.size + 2] w8).drew) _) (Chg.mono cc (fun _ h => absurd h List.not_mem_nil))) | (have Tc : Chg [w.heap.size + 2] w8 _ := Chg.trans (Chg.putRow ((Chg.refl [w.heap.size + 2] w8).drew) (w.heap.size + 2) 0 _ (.inl (List.mem_singleton.2 rfl))) (Chg.mono cc (fun _ h => absurd h List.not_mem_nil))) | (have Tc : Chg [w.heap.size + 2] w8 _ := Chg.trans (Chg.putRow (Chg.alloc ((Chg.refl [w.heap.size + 2] w8).drew) _) (w.heap.size + 2) 0 _ (.inl (List.mem_singleton.2 rfl))) (Chg.mono cc (fun _ h => absurd h List.not_mem_nil))) | (have Tc : Chg [w.heap.size + 2] w8 _ := Chg.trans (Chg.alloc (Chg.putRow ((Chg.refl [w.heap.size + 2] w8).drew) (w.heap.size + 2) 0 _ (.inl (List.mem_singleton.2 rfl))) _) (Chg.mono cc (fun _ h => absurd h List.not_mem_nil)))); (first | (have rRc := cc.keep rR List.not_mem_nil) | (have rRc := Chg.keep ((Chg.refl [] _).alloc _ |>.trans cc) rR List.not_mem_nil) | (have rRc := cc.keep (put_row rR rfl) List.not_mem_nil))))
  all_goals
    go_wp2_with fail
    refine bodyPost_ret (results_er3 (by rfl) _ _ (w.heap.size + 2) (x.setOw (-1)) (0, 0) (by rfl) (by first | (simp [rRc]; done)) _ _ (by rfl) (by rfl)) (by rfl) ?_
    first
      | exact En3r.L1 C8 Tc oR (by omega)
      | exact En3r.L1p C8 Tc oR (by omega)
      | exact En3r.L2 C8 Tc oR (by omega)
      | exact En3r.L1 C8 (Chg.drew (Chg.refl [w.heap.size + 2] w8)) oR (by omega)
      | exact En3r.L1p C8 (Chg.drew (Chg.refl [w.heap.size + 2] w8)) oR (by omega)
      | exact En3r.L2 C8 (Chg.drew (Chg.refl [w.heap.size + 2] w8)) oR (by omega)
set_option maxHeartbeats 4000000 in
set_option maxRecDepth 100000 in
theorem rask_P3 (x : En) (c : Int) (m : Ms) (w : World) (o00 : Old w 0) (g1 : goodE x = true) (g2 : isC c = true) (g3 : mg m = true) (g4 : asksB m.kd = true) (hb : x.bu = 0) (hh : x.he = true) (h1 : ¬ x.ow = c) (hk : m.kd = 3) : Calls Tryd.prog 10 #[.agg (ec x), .int .i64 c, .agg (msc m)] w (En3r w (putE x c m, 0)) := by
  have t1 : (x.bu != 0) = false := by simp [hb]
  have hx8 := x.h
  have hm8 := m.h
  have s1 : (m.kd == 1) = false := by simp [hk]
  have s2 : (m.kd == 2) = false := by simp [hk]
  have s3 : (m.kd == 3) = true := by simp [hk]
  have e1 : (putE x c m, (0 : Int)) = ((x.setSh (x.sh &&& ~~~(bitM c)), [⟨c, ms4 11 m.li false false⟩]), 0) := by
    simp [putE, withoutE, h1, tell_one, g2]
  have q1 : (x.ow == c) = false := by simp [h1]
  rw [e1]
  clear e1 h1
  clear hk
  go_enter Tryd.func10, Tryd.ntmps10
  try dsimp only [List.append]
  go_wp2_with fail
  refine gen_calls3 (w := w) (b1 := w.heap.size) (x1 := .cells (ec (x)) 33 (0, 0)) (b2 := w.heap.size + 1) (x2 := .cells (msc m) 28 (0, 0)) (b3 := w.heap.size + 2) (x3 := .cells (ec (enZ)) 33 (0, 0)) (by (repeat' (first | with_reducible exact Chg.refl _ _ | with_reducible assumption | with_reducible refine Chg.drew ?_ | with_reducible refine Chg.drewN ?_ _ | with_reducible refine Chg.alloc ?_ _ | with_reducible refine Chg.putRow ?_ _ _ _ (.inr ?_) | with_reducible refine Chg.setCell ?_ _ _ _ (.inr ?_)  | (show _ ≤ _; first | exact Nat.le_refl _ | omega | (simp; done))))) (by simp [*]) (by simp [*]) (by simp [*]) fun w1 C1 rE rM rR => ?_
  have oE := old rE
  have oM := old rM
  have oR := old rR
  refine (rgood_at x _ g1 w1).mono ?_
  rintro e w3 ⟨rfl, c3⟩
  have rE3 := c3.keep rE (by simp)
  have rM3 := c3.keep rM (by simp)
  have rR3 := c3.keep rR (by simp)
  have C3 := C1.trans c3
  clear rE rM rR oE oM oR C1 c3
  have oE3 := old rE3
  have oM3 := old rM3
  have oR3 := old rR3
  go_wp2_with ((go_at_call 32; refine (rcore_at _ _ g2 _).mono ?_; rintro e w' ⟨rfl, rfl⟩))
  refine (rmgood_at m _ g3 w3).mono ?_
  rintro e w4 ⟨rfl, c4⟩
  have rE4 := c4.keep rE3 (by simp)
  have rM4 := c4.keep rM3 (by simp)
  have rR4 := c4.keep rR3 (by simp)
  have C4 := C3.trans c4
  clear rE3 rM3 rR3 oE3 oM3 oR3 C3 c4
  have oE4 := old rE4
  have oM4 := old rM4
  have oR4 := old rR4
  clear g1 g2 g3
  go_upto_region 27 with (first | (go_at_call 34; refine (rasks_at _ _ g4 _).mono ?_; rintro e w' ⟨rfl, rfl⟩) | (go_at_call 26; refine (rbit_any _ _).mono ?_; rintro e w' ⟨rfl, rfl⟩))
  refine gen_world3 (w := w) (b1 := w.heap.size) (x1 := .cells (ec (x.setSh (x.sh &&& ~~~(bitM c)))) 33 (0, 0)) (b2 := w.heap.size + 1) (x2 := .cells (msc m) 28 (0, 0)) (b3 := w.heap.size + 2) (x3 := .cells (ec (enZ)) 33 (0, 0)) (by (repeat' (first | with_reducible exact Chg.refl _ _ | with_reducible assumption | with_reducible refine Chg.drew ?_ | with_reducible refine Chg.drewN ?_ _ | with_reducible refine Chg.alloc ?_ _ | with_reducible refine Chg.putRow ?_ _ _ _ (.inr ?_) | with_reducible refine Chg.setCell ?_ _ _ _ (.inr ?_)  | (show _ ≤ _; first | exact Nat.le_refl _ | omega | (simp; done))))) (by simp (maxDischargeDepth := 8) [rE4]) (by simp (maxDischargeDepth := 8) [rM4]) (by simp (maxDischargeDepth := 8) [rR4]) fun w8 C8 rE rM rR => ?_
  have oE := old rE
  have oM := old rM
  have oR := old rR
  go_region_held3 (fun w' => w'.heap[w.heap.size]? = some (.cells (ec (x.setSh (x.sh &&& ~~~(bitM c)))) 33 (0, 0)) ∧ w'.heap[w.heap.size + 1]? = some (.cells (msc m) 28 (0, 0))) (exact ⟨Chg.keep (l := [w.heap.size + 2]) (w := w8) (by (repeat' (first | with_reducible exact Tc | with_reducible exact Chg.refl _ _ | with_reducible refine Chg.alloc ?_ _ | with_reducible refine Chg.drew ?_ | with_reducible refine Chg.putRow ?_ _ _ _ (.inl (List.mem_singleton.2 rfl))))) rE (by simp), Chg.keep (l := [w.heap.size + 2]) (w := w8) (by (repeat' (first | with_reducible exact Tc | with_reducible exact Chg.refl _ _ | with_reducible refine Chg.alloc ?_ _ | with_reducible refine Chg.drew ?_ | with_reducible refine Chg.putRow ?_ _ _ _ (.inl (List.mem_singleton.2 rfl))))) rM (by simp)⟩)
    (first
      | (go_at_call 37; refine (rtell0_any _ _ _ _).mono ?_; rintro e w' ⟨rfl, cc⟩; (first | (have Tc : Chg [w.heap.size + 2] w8 _ := Chg.trans ((Chg.refl [w.heap.size + 2] w8).drew) (Chg.mono cc (fun _ h => absurd h List.not_mem_nil))) | (have Tc : Chg [w.heap.size + 2] w8 _ := Chg.trans (Chg.alloc ((Chg.refl [w.heap.size + 2] w8).drew) _) (Chg.mono cc (fun _ h => absurd h List.not_mem_nil))) | (have Tc : Chg [w.heap.size + 2] w8 _ := Chg.trans (Chg.putRow ((Chg.refl [w.heap.size + 2] w8).drew) (w.heap.size + 2) 0 _ (.inl (List.mem_singleton.2 rfl))) (Chg.mono cc (fun _ h => absurd h List.not_mem_nil))) | (have Tc : Chg [w.heap.size + 2] w8 _ := Chg.trans (Chg.putRow (Chg.alloc ((Chg.refl [w.heap.size + 2] w8).drew) _) (w.heap.size + 2) 0 _ (.inl (List.mem_singleton.2 rfl))) (Chg.mono cc (fun _ h => absurd h List.not_mem_nil))) | (have Tc : Chg [w.heap.size + 2] w8 _ := Chg.trans (Chg.alloc (Chg.putRow ((Chg.refl [w.heap.size + 2] w8).drew) (w.heap.size + 2) 0 _ (.inl (List.mem_singleton.2 rfl))) _) (Chg.mono cc (fun _ h => absurd h List.not_mem_nil)))); (first | (have rRc := cc.keep rR List.not_mem_nil) | (have rRc := Chg.keep ((Chg.refl [] _).alloc _ |>.trans cc) rR List.not_mem_nil) | (have rRc := cc.keep (put_row rR rfl) List.not_mem_nil))))
  all_goals
    go_wp2_with fail
    refine bodyPost_ret (results_er3 (by rfl) _ _ (w.heap.size + 2) (x.setSh (x.sh &&& ~~~(bitM c))) (0, 0) (by rfl) (by first | (simp [rRc]; done)) _ _ (by rfl) (by rfl)) (by rfl) ?_
    first
      | exact En3r.L1 C8 Tc oR (by omega)
      | exact En3r.L1p C8 Tc oR (by omega)
      | exact En3r.L2 C8 Tc oR (by omega)
      | exact En3r.L1 C8 (Chg.drew (Chg.refl [w.heap.size + 2] w8)) oR (by omega)
      | exact En3r.L1p C8 (Chg.drew (Chg.refl [w.heap.size + 2] w8)) oR (by omega)
      | exact En3r.L2 C8 (Chg.drew (Chg.refl [w.heap.size + 2] w8)) oR (by omega)
set_option maxHeartbeats 4000000 in
set_option maxRecDepth 100000 in
theorem rask_C (x : En) (c : Int) (m : Ms) (w : World) (o00 : Old w 0) (g1 : goodE x = true) (g2 : isC c = true) (g3 : mg m = true) (g4 : asksB m.kd = true) (hb : x.bu = 0) (hh : x.he = true) (hk : m.kd = 4) : Calls Tryd.prog 10 #[.agg (ec x), .int .i64 c, .agg (msc m)] w (En3r w (cleanE x c m, 0)) := by
  have t1 : (x.bu != 0) = false := by simp [hb]
  have hx8 := x.h
  have hm8 := m.h
  have s1 : (m.kd == 1) = false := by simp [hk]
  have s2 : (m.kd == 2) = false := by simp [hk]
  have s3 : (m.kd == 3) = false := by simp [hk]
  have s4 : (m.kd == 4) = true := by simp [hk]
  have e1 : (cleanE x c m, (0 : Int)) = ((busyE x 4 c (bitM x.ow), tellL (bitM x.ow) (ms4 13 m.li false false)), 0) := by
    simp [cleanE, waitE, busyE, hk]
  rw [e1]
  clear e1
  clear hk
  go_enter Tryd.func10, Tryd.ntmps10
  try dsimp only [List.append]
  go_wp2_with fail
  refine gen_calls3 (w := w) (b1 := w.heap.size) (x1 := .cells (ec (x)) 33 (0, 0)) (b2 := w.heap.size + 1) (x2 := .cells (msc m) 28 (0, 0)) (b3 := w.heap.size + 2) (x3 := .cells (ec (enZ)) 33 (0, 0)) (by (repeat' (first | with_reducible exact Chg.refl _ _ | with_reducible assumption | with_reducible refine Chg.drew ?_ | with_reducible refine Chg.drewN ?_ _ | with_reducible refine Chg.alloc ?_ _ | with_reducible refine Chg.putRow ?_ _ _ _ (.inr ?_) | with_reducible refine Chg.setCell ?_ _ _ _ (.inr ?_)  | (show _ ≤ _; first | exact Nat.le_refl _ | omega | (simp; done))))) (by simp [*]) (by simp [*]) (by simp [*]) fun w1 C1 rE rM rR => ?_
  have oE := old rE
  have oM := old rM
  have oR := old rR
  refine (rgood_at x _ g1 w1).mono ?_
  rintro e w3 ⟨rfl, c3⟩
  have rE3 := c3.keep rE (by simp)
  have rM3 := c3.keep rM (by simp)
  have rR3 := c3.keep rR (by simp)
  have C3 := C1.trans c3
  clear rE rM rR oE oM oR C1 c3
  have oE3 := old rE3
  have oM3 := old rM3
  have oR3 := old rR3
  go_wp2_with ((go_at_call 32; refine (rcore_at _ _ g2 _).mono ?_; rintro e w' ⟨rfl, rfl⟩))
  refine (rmgood_at m _ g3 w3).mono ?_
  rintro e w4 ⟨rfl, c4⟩
  have rE4 := c4.keep rE3 (by simp)
  have rM4 := c4.keep rM3 (by simp)
  have rR4 := c4.keep rR3 (by simp)
  have C4 := C3.trans c4
  clear rE3 rM3 rR3 oE3 oM3 oR3 C3 c4
  have oE4 := old rE4
  have oM4 := old rM4
  have oR4 := old rR4
  clear g1 g2 g3
  go_upto_region 29 with (first | (go_at_call 34; refine (rasks_at _ _ g4 _).mono ?_; rintro e w' ⟨rfl, rfl⟩) | (go_at_call 26; refine (rbit_any _ _).mono ?_; rintro e w' ⟨rfl, rfl⟩))
  refine gen_world3 (w := w) (b1 := w.heap.size) (x1 := .cells (ec (x)) 33 (0, 0)) (b2 := w.heap.size + 1) (x2 := .cells (msc m) 28 (0, 0)) (b3 := w.heap.size + 2) (x3 := .cells (ec (enZ)) 33 (0, 0)) (by (repeat' (first | with_reducible exact Chg.refl _ _ | with_reducible assumption | with_reducible refine Chg.drew ?_ | with_reducible refine Chg.drewN ?_ _ | with_reducible refine Chg.alloc ?_ _ | with_reducible refine Chg.putRow ?_ _ _ _ (.inr ?_) | with_reducible refine Chg.setCell ?_ _ _ _ (.inr ?_)  | (show _ ≤ _; first | exact Nat.le_refl _ | omega | (simp; done))))) (by simp [*]) (by simp [*]) (by simp [*]) fun w8 C8 rE rM rR => ?_
  have oE := old rE
  have oM := old rM
  have oR := old rR
  have o0 := o00.chg C8
  go_region_held3 (fun w' => w'.heap[w.heap.size]? = some (.cells (ec (x)) 33 (0, 0)) ∧ w'.heap[w.heap.size + 1]? = some (.cells (msc m) 28 (0, 0))) (exact ⟨Chg.keep (l := [w.heap.size + 2]) (w := w8) (by (repeat' (first | with_reducible exact Ta | with_reducible exact Tb | with_reducible exact Td | with_reducible exact Chg.refl _ _ | with_reducible refine Chg.alloc ?_ _ | with_reducible refine Chg.drew ?_ | with_reducible refine Chg.putRow ?_ _ _ _ (.inl (List.mem_singleton.2 rfl))))) rE (by simp), Chg.keep (l := [w.heap.size + 2]) (w := w8) (by (repeat' (first | with_reducible exact Ta | with_reducible exact Tb | with_reducible exact Td | with_reducible exact Chg.refl _ _ | with_reducible refine Chg.alloc ?_ _ | with_reducible refine Chg.drew ?_ | with_reducible refine Chg.putRow ?_ _ _ _ (.inl (List.mem_singleton.2 rfl))))) rM (by simp)⟩)
    (first
      | (go_at_call 36; refine (rmine_any _ _).mono ?_; rintro e w' ⟨rfl, ca⟩; (first | (have Ta : Chg [w.heap.size + 2] w8 _ := Chg.trans ((Chg.refl [w.heap.size + 2] w8).drew) (Chg.mono ca (fun _ h => absurd h List.not_mem_nil))) | (have Ta : Chg [w.heap.size + 2] w8 _ := Chg.trans (Chg.alloc ((Chg.refl [w.heap.size + 2] w8).drew) _) (Chg.mono ca (fun _ h => absurd h List.not_mem_nil))) | (have Ta : Chg [w.heap.size + 2] w8 _ := Chg.trans (Chg.putRow ((Chg.refl [w.heap.size + 2] w8).drew) (w.heap.size + 2) 0 _ (.inl (List.mem_singleton.2 rfl))) (Chg.mono ca (fun _ h => absurd h List.not_mem_nil))) | (have Ta : Chg [w.heap.size + 2] w8 _ := Chg.trans (Chg.putRow (Chg.alloc ((Chg.refl [w.heap.size + 2] w8).drew) _) (w.heap.size + 2) 0 _ (.inl (List.mem_singleton.2 rfl))) (Chg.mono ca (fun _ h => absurd h List.not_mem_nil))) | (have Ta : Chg [w.heap.size + 2] w8 _ := Chg.trans (Chg.alloc (Chg.putRow ((Chg.refl [w.heap.size + 2] w8).drew) (w.heap.size + 2) 0 _ (.inl (List.mem_singleton.2 rfl))) _) (Chg.mono ca (fun _ h => absurd h List.not_mem_nil))) | (have Ta : Chg [w.heap.size + 2] w8 _ := Chg.trans Ta (Chg.mono ca (fun _ h => absurd h List.not_mem_nil))) | (have Ta : Chg [w.heap.size + 2] w8 _ := Chg.trans (Chg.alloc Ta _) (Chg.mono ca (fun _ h => absurd h List.not_mem_nil))) | (have Ta : Chg [w.heap.size + 2] w8 _ := Chg.trans (Chg.putRow Ta (w.heap.size + 2) 0 _ (.inl (List.mem_singleton.2 rfl))) (Chg.mono ca (fun _ h => absurd h List.not_mem_nil))) | (have Ta : Chg [w.heap.size + 2] w8 _ := Chg.trans (Chg.putRow (Chg.alloc Ta _) (w.heap.size + 2) 0 _ (.inl (List.mem_singleton.2 rfl))) (Chg.mono ca (fun _ h => absurd h List.not_mem_nil))) | (have Ta : Chg [w.heap.size + 2] w8 _ := Chg.trans (Chg.alloc (Chg.putRow Ta (w.heap.size + 2) 0 _ (.inl (List.mem_singleton.2 rfl))) _) (Chg.mono ca (fun _ h => absurd h List.not_mem_nil))) | (have Ta : Chg [w.heap.size + 2] w8 _ := Chg.trans Tb (Chg.mono ca (fun _ h => absurd h List.not_mem_nil))) | (have Ta : Chg [w.heap.size + 2] w8 _ := Chg.trans (Chg.alloc Tb _) (Chg.mono ca (fun _ h => absurd h List.not_mem_nil))) | (have Ta : Chg [w.heap.size + 2] w8 _ := Chg.trans (Chg.putRow Tb (w.heap.size + 2) 0 _ (.inl (List.mem_singleton.2 rfl))) (Chg.mono ca (fun _ h => absurd h List.not_mem_nil))) | (have Ta : Chg [w.heap.size + 2] w8 _ := Chg.trans (Chg.putRow (Chg.alloc Tb _) (w.heap.size + 2) 0 _ (.inl (List.mem_singleton.2 rfl))) (Chg.mono ca (fun _ h => absurd h List.not_mem_nil))) | (have Ta : Chg [w.heap.size + 2] w8 _ := Chg.trans (Chg.alloc (Chg.putRow Tb (w.heap.size + 2) 0 _ (.inl (List.mem_singleton.2 rfl))) _) (Chg.mono ca (fun _ h => absurd h List.not_mem_nil))) | (have Ta : Chg [w.heap.size + 2] w8 _ := Chg.trans Td (Chg.mono ca (fun _ h => absurd h List.not_mem_nil))) | (have Ta : Chg [w.heap.size + 2] w8 _ := Chg.trans (Chg.alloc Td _) (Chg.mono ca (fun _ h => absurd h List.not_mem_nil))) | (have Ta : Chg [w.heap.size + 2] w8 _ := Chg.trans (Chg.putRow Td (w.heap.size + 2) 0 _ (.inl (List.mem_singleton.2 rfl))) (Chg.mono ca (fun _ h => absurd h List.not_mem_nil))) | (have Ta : Chg [w.heap.size + 2] w8 _ := Chg.trans (Chg.putRow (Chg.alloc Td _) (w.heap.size + 2) 0 _ (.inl (List.mem_singleton.2 rfl))) (Chg.mono ca (fun _ h => absurd h List.not_mem_nil))) | (have Ta : Chg [w.heap.size + 2] w8 _ := Chg.trans (Chg.alloc (Chg.putRow Td (w.heap.size + 2) 0 _ (.inl (List.mem_singleton.2 rfl))) _) (Chg.mono ca (fun _ h => absurd h List.not_mem_nil)))); (first | (have rRa := ca.keep rR List.not_mem_nil) | (have rRa := ca.keep rRa List.not_mem_nil) | (have rRa := ca.keep rRb List.not_mem_nil) | (have rRa := ca.keep rRd List.not_mem_nil) | (have rRa := Chg.keep ((Chg.refl [] _).alloc _ |>.trans ca) rR List.not_mem_nil) | (have rRa := Chg.keep ((Chg.refl [] _).alloc _ |>.trans ca) rRa List.not_mem_nil) | (have rRa := Chg.keep ((Chg.refl [] _).alloc _ |>.trans ca) rRb List.not_mem_nil) | (have rRa := Chg.keep ((Chg.refl [] _).alloc _ |>.trans ca) rRd List.not_mem_nil) | (have rRa := ca.keep (put_row rR rfl) List.not_mem_nil) | (have rRa := ca.keep (put_row rRa rfl) List.not_mem_nil) | (have rRa := ca.keep (put_row rRb rfl) List.not_mem_nil) | (have rRa := ca.keep (put_row rRd rfl) List.not_mem_nil)))
      | (go_at_call 35; refine (rbusy_any _ _ _ _ _).mono ?_; rintro e w' ⟨rfl, cb⟩; (first | (have Tb : Chg [w.heap.size + 2] w8 _ := Chg.trans ((Chg.refl [w.heap.size + 2] w8).drew) (Chg.mono cb (fun _ h => absurd h List.not_mem_nil))) | (have Tb : Chg [w.heap.size + 2] w8 _ := Chg.trans (Chg.alloc ((Chg.refl [w.heap.size + 2] w8).drew) _) (Chg.mono cb (fun _ h => absurd h List.not_mem_nil))) | (have Tb : Chg [w.heap.size + 2] w8 _ := Chg.trans (Chg.putRow ((Chg.refl [w.heap.size + 2] w8).drew) (w.heap.size + 2) 0 _ (.inl (List.mem_singleton.2 rfl))) (Chg.mono cb (fun _ h => absurd h List.not_mem_nil))) | (have Tb : Chg [w.heap.size + 2] w8 _ := Chg.trans (Chg.putRow (Chg.alloc ((Chg.refl [w.heap.size + 2] w8).drew) _) (w.heap.size + 2) 0 _ (.inl (List.mem_singleton.2 rfl))) (Chg.mono cb (fun _ h => absurd h List.not_mem_nil))) | (have Tb : Chg [w.heap.size + 2] w8 _ := Chg.trans (Chg.alloc (Chg.putRow ((Chg.refl [w.heap.size + 2] w8).drew) (w.heap.size + 2) 0 _ (.inl (List.mem_singleton.2 rfl))) _) (Chg.mono cb (fun _ h => absurd h List.not_mem_nil))) | (have Tb : Chg [w.heap.size + 2] w8 _ := Chg.trans Ta (Chg.mono cb (fun _ h => absurd h List.not_mem_nil))) | (have Tb : Chg [w.heap.size + 2] w8 _ := Chg.trans (Chg.alloc Ta _) (Chg.mono cb (fun _ h => absurd h List.not_mem_nil))) | (have Tb : Chg [w.heap.size + 2] w8 _ := Chg.trans (Chg.putRow Ta (w.heap.size + 2) 0 _ (.inl (List.mem_singleton.2 rfl))) (Chg.mono cb (fun _ h => absurd h List.not_mem_nil))) | (have Tb : Chg [w.heap.size + 2] w8 _ := Chg.trans (Chg.putRow (Chg.alloc Ta _) (w.heap.size + 2) 0 _ (.inl (List.mem_singleton.2 rfl))) (Chg.mono cb (fun _ h => absurd h List.not_mem_nil))) | (have Tb : Chg [w.heap.size + 2] w8 _ := Chg.trans (Chg.alloc (Chg.putRow Ta (w.heap.size + 2) 0 _ (.inl (List.mem_singleton.2 rfl))) _) (Chg.mono cb (fun _ h => absurd h List.not_mem_nil))) | (have Tb : Chg [w.heap.size + 2] w8 _ := Chg.trans Td (Chg.mono cb (fun _ h => absurd h List.not_mem_nil))) | (have Tb : Chg [w.heap.size + 2] w8 _ := Chg.trans (Chg.alloc Td _) (Chg.mono cb (fun _ h => absurd h List.not_mem_nil))) | (have Tb : Chg [w.heap.size + 2] w8 _ := Chg.trans (Chg.putRow Td (w.heap.size + 2) 0 _ (.inl (List.mem_singleton.2 rfl))) (Chg.mono cb (fun _ h => absurd h List.not_mem_nil))) | (have Tb : Chg [w.heap.size + 2] w8 _ := Chg.trans (Chg.putRow (Chg.alloc Td _) (w.heap.size + 2) 0 _ (.inl (List.mem_singleton.2 rfl))) (Chg.mono cb (fun _ h => absurd h List.not_mem_nil))) | (have Tb : Chg [w.heap.size + 2] w8 _ := Chg.trans (Chg.alloc (Chg.putRow Td (w.heap.size + 2) 0 _ (.inl (List.mem_singleton.2 rfl))) _) (Chg.mono cb (fun _ h => absurd h List.not_mem_nil)))); (first | (have rRb := cb.keep rR List.not_mem_nil) | (have rRb := cb.keep rRa List.not_mem_nil) | (have rRb := cb.keep rRd List.not_mem_nil) | (have rRb := Chg.keep ((Chg.refl [] _).alloc _ |>.trans cb) rR List.not_mem_nil) | (have rRb := Chg.keep ((Chg.refl [] _).alloc _ |>.trans cb) rRa List.not_mem_nil) | (have rRb := Chg.keep ((Chg.refl [] _).alloc _ |>.trans cb) rRd List.not_mem_nil) | (have rRb := cb.keep (put_row rR rfl) List.not_mem_nil) | (have rRb := cb.keep (put_row rRa rfl) List.not_mem_nil) | (have rRb := cb.keep (put_row rRd rfl) List.not_mem_nil)))
      | (go_at_call 39; refine (rall_any _ _ _ _ ?_).mono ?_; (first | exact o0 | exact Nat.lt_of_lt_of_le o0.lt (Chg.size Ta) | exact Nat.lt_of_lt_of_le o0.lt (Chg.size Tb) | exact Nat.lt_of_lt_of_le o0.lt (Chg.size (Chg.putRow Ta (w.heap.size + 2) 0 _ (.inl (List.mem_singleton.2 rfl)))) | exact Nat.lt_of_lt_of_le o0.lt (Chg.size (Chg.putRow Tb (w.heap.size + 2) 0 _ (.inl (List.mem_singleton.2 rfl))))); rintro e w' ⟨A2, n2, rfl, hs2, hA2, cd⟩; (first | (have Td : Chg [w.heap.size + 2] w8 _ := Chg.trans ((Chg.refl [w.heap.size + 2] w8).drew) (Chg.mono cd (fun _ h => absurd h List.not_mem_nil))) | (have Td : Chg [w.heap.size + 2] w8 _ := Chg.trans (Chg.alloc ((Chg.refl [w.heap.size + 2] w8).drew) _) (Chg.mono cd (fun _ h => absurd h List.not_mem_nil))) | (have Td : Chg [w.heap.size + 2] w8 _ := Chg.trans (Chg.putRow ((Chg.refl [w.heap.size + 2] w8).drew) (w.heap.size + 2) 0 _ (.inl (List.mem_singleton.2 rfl))) (Chg.mono cd (fun _ h => absurd h List.not_mem_nil))) | (have Td : Chg [w.heap.size + 2] w8 _ := Chg.trans (Chg.putRow (Chg.alloc ((Chg.refl [w.heap.size + 2] w8).drew) _) (w.heap.size + 2) 0 _ (.inl (List.mem_singleton.2 rfl))) (Chg.mono cd (fun _ h => absurd h List.not_mem_nil))) | (have Td : Chg [w.heap.size + 2] w8 _ := Chg.trans (Chg.alloc (Chg.putRow ((Chg.refl [w.heap.size + 2] w8).drew) (w.heap.size + 2) 0 _ (.inl (List.mem_singleton.2 rfl))) _) (Chg.mono cd (fun _ h => absurd h List.not_mem_nil))) | (have Td : Chg [w.heap.size + 2] w8 _ := Chg.trans Ta (Chg.mono cd (fun _ h => absurd h List.not_mem_nil))) | (have Td : Chg [w.heap.size + 2] w8 _ := Chg.trans (Chg.alloc Ta _) (Chg.mono cd (fun _ h => absurd h List.not_mem_nil))) | (have Td : Chg [w.heap.size + 2] w8 _ := Chg.trans (Chg.putRow Ta (w.heap.size + 2) 0 _ (.inl (List.mem_singleton.2 rfl))) (Chg.mono cd (fun _ h => absurd h List.not_mem_nil))) | (have Td : Chg [w.heap.size + 2] w8 _ := Chg.trans (Chg.putRow (Chg.alloc Ta _) (w.heap.size + 2) 0 _ (.inl (List.mem_singleton.2 rfl))) (Chg.mono cd (fun _ h => absurd h List.not_mem_nil))) | (have Td : Chg [w.heap.size + 2] w8 _ := Chg.trans (Chg.alloc (Chg.putRow Ta (w.heap.size + 2) 0 _ (.inl (List.mem_singleton.2 rfl))) _) (Chg.mono cd (fun _ h => absurd h List.not_mem_nil))) | (have Td : Chg [w.heap.size + 2] w8 _ := Chg.trans Tb (Chg.mono cd (fun _ h => absurd h List.not_mem_nil))) | (have Td : Chg [w.heap.size + 2] w8 _ := Chg.trans (Chg.alloc Tb _) (Chg.mono cd (fun _ h => absurd h List.not_mem_nil))) | (have Td : Chg [w.heap.size + 2] w8 _ := Chg.trans (Chg.putRow Tb (w.heap.size + 2) 0 _ (.inl (List.mem_singleton.2 rfl))) (Chg.mono cd (fun _ h => absurd h List.not_mem_nil))) | (have Td : Chg [w.heap.size + 2] w8 _ := Chg.trans (Chg.putRow (Chg.alloc Tb _) (w.heap.size + 2) 0 _ (.inl (List.mem_singleton.2 rfl))) (Chg.mono cd (fun _ h => absurd h List.not_mem_nil))) | (have Td : Chg [w.heap.size + 2] w8 _ := Chg.trans (Chg.alloc (Chg.putRow Tb (w.heap.size + 2) 0 _ (.inl (List.mem_singleton.2 rfl))) _) (Chg.mono cd (fun _ h => absurd h List.not_mem_nil)))); (first | (have rRd := cd.keep rR List.not_mem_nil) | (have rRd := cd.keep rRa List.not_mem_nil) | (have rRd := cd.keep rRb List.not_mem_nil) | (have rRd := Chg.keep ((Chg.refl [] _).alloc _ |>.trans cd) rR List.not_mem_nil) | (have rRd := Chg.keep ((Chg.refl [] _).alloc _ |>.trans cd) rRa List.not_mem_nil) | (have rRd := Chg.keep ((Chg.refl [] _).alloc _ |>.trans cd) rRb List.not_mem_nil) | (have rRd := cd.keep (put_row rR rfl) List.not_mem_nil) | (have rRd := cd.keep (put_row rRa rfl) List.not_mem_nil) | (have rRd := cd.keep (put_row rRb rfl) List.not_mem_nil)); (first | (have hA3 : ∀ a, A2 = some a → w8.heap.size ≤ a.block := fun a ha => Nat.le_trans (Chg.size Ta) (hA2 a ha)) | (have hA3 : ∀ a, A2 = some a → w8.heap.size ≤ a.block := fun a ha => Nat.le_trans (Chg.size Tb) (hA2 a ha)) | (have hA3 : ∀ a, A2 = some a → w8.heap.size ≤ a.block := fun a ha => Nat.le_trans (Chg.size (Chg.putRow Ta (w.heap.size + 2) 0 _ (.inl (List.mem_singleton.2 rfl)))) (hA2 a ha)) | (have hA3 : ∀ a, A2 = some a → w8.heap.size ≤ a.block := fun a ha => Nat.le_trans (Chg.size (Chg.putRow Tb (w.heap.size + 2) 0 _ (.inl (List.mem_singleton.2 rfl)))) (hA2 a ha)) | (have hA3 : ∀ a, A2 = some a → w8.heap.size ≤ a.block := fun a ha => hA2 a ha) | (have hA3 : ∀ a, A2 = some a → w8.heap.size ≤ a.block := (by intro a ha; have := hA2 a ha; simp at this; omega)))))
  all_goals
    go_wp2_with fail
    refine bodyPost_ret (results_er3 (by rfl) _ _ (w.heap.size + 2) (busyE x 4 c (bitM x.ow)) (0, 0) (by rfl) (by first | (simp [rRd]; done) | (simp [rRb]; done) | (simp [rRa]; done)) _ _ (by rfl) (by rfl)) (by rfl) ?_
    first
      | exact En3r.S C8 oR (by omega) hs2 hA3 Td (Chg.refl _ _)
      | exact En3r.S C8 oR (by omega) hs2 hA3 Td (Chg.putRow (Chg.refl _ _) (w.heap.size + 2) 0 _ (.inl (List.mem_singleton.2 rfl)))
      | exact En3r.S C8 oR (by omega) hs2 hA3 Td (Chg.mono cb (fun _ h => absurd h List.not_mem_nil))
      | exact En3r.S C8 oR (by omega) hs2 hA3 Td (Chg.putRow (Chg.mono cb (fun _ h => absurd h List.not_mem_nil)) (w.heap.size + 2) 0 _ (.inl (List.mem_singleton.2 rfl)))
      | exact En3r.S C8 oR (by omega) hs2 hA3 Td (Chg.trans ca cb)
      | exact En3r.S C8 oR (by omega) hs2 hA3 Td (Chg.putRow (Chg.trans ca cb) (w.heap.size + 2) 0 _ (.inl (List.mem_singleton.2 rfl)))
      | exact En3r.S C8 oR (by omega) hs2 hA3 Td (Chg.mono ca (fun _ h => absurd h List.not_mem_nil))
      | exact En3r.S C8 oR (by omega) hs2 hA3 Td (Chg.putRow (Chg.mono ca (fun _ h => absurd h List.not_mem_nil)) (w.heap.size + 2) 0 _ (.inl (List.mem_singleton.2 rfl)))
set_option maxHeartbeats 4000000 in
set_option maxRecDepth 100000 in
theorem rask_W (x : En) (c : Int) (m : Ms) (w : World) (o00 : Old w 0) (g1 : goodE x = true) (g2 : isC c = true) (g3 : mg m = true) (g4 : asksB m.kd = true) (hb : x.bu = 0) (hh : x.he = true) (hk : m.kd = 5) : Calls Tryd.prog 10 #[.agg (ec x), .int .i64 c, .agg (msc m)] w (En3r w (wipeE x c m, 0)) := by
  have t1 : (x.bu != 0) = false := by simp [hb]
  have hx8 := x.h
  have hm8 := m.h
  have s1 : (m.kd == 1) = false := by simp [hk]
  have s2 : (m.kd == 2) = false := by simp [hk]
  have s3 : (m.kd == 3) = false := by simp [hk]
  have s4 : (m.kd == 4) = false := by simp [hk]
  have e1 : (wipeE x c m, (0 : Int)) = ((busyE x 5 c (bitM x.ow ||| x.sh), tellL (bitM x.ow ||| x.sh) (ms4 12 m.li false false)), 0) := by
    simp [wipeE, waitE, busyE, hk, holders, or_bits]
  rw [e1]
  clear e1
  generalize hoo : (bitM x.ow ||| x.sh) = o at *
  clear hk
  go_enter Tryd.func10, Tryd.ntmps10
  try dsimp only [List.append]
  go_wp2_with fail
  refine gen_calls3 (w := w) (b1 := w.heap.size) (x1 := .cells (ec (x)) 33 (0, 0)) (b2 := w.heap.size + 1) (x2 := .cells (msc m) 28 (0, 0)) (b3 := w.heap.size + 2) (x3 := .cells (ec (enZ)) 33 (0, 0)) (by (repeat' (first | with_reducible exact Chg.refl _ _ | with_reducible assumption | with_reducible refine Chg.drew ?_ | with_reducible refine Chg.drewN ?_ _ | with_reducible refine Chg.alloc ?_ _ | with_reducible refine Chg.putRow ?_ _ _ _ (.inr ?_) | with_reducible refine Chg.setCell ?_ _ _ _ (.inr ?_)  | (show _ ≤ _; first | exact Nat.le_refl _ | omega | (simp; done))))) (by simp [*]) (by simp [*]) (by simp [*]) fun w1 C1 rE rM rR => ?_
  have oE := old rE
  have oM := old rM
  have oR := old rR
  refine (rgood_at x _ g1 w1).mono ?_
  rintro e w3 ⟨rfl, c3⟩
  have rE3 := c3.keep rE (by simp)
  have rM3 := c3.keep rM (by simp)
  have rR3 := c3.keep rR (by simp)
  have C3 := C1.trans c3
  clear rE rM rR oE oM oR C1 c3
  have oE3 := old rE3
  have oM3 := old rM3
  have oR3 := old rR3
  go_wp2_with ((go_at_call 32; refine (rcore_at _ _ g2 _).mono ?_; rintro e w' ⟨rfl, rfl⟩))
  refine (rmgood_at m _ g3 w3).mono ?_
  rintro e w4 ⟨rfl, c4⟩
  have rE4 := c4.keep rE3 (by simp)
  have rM4 := c4.keep rM3 (by simp)
  have rR4 := c4.keep rR3 (by simp)
  have C4 := C3.trans c4
  clear rE3 rM3 rR3 oE3 oM3 oR3 C3 c4
  have oE4 := old rE4
  have oM4 := old rM4
  have oR4 := old rR4
  clear g1 g2 g3
  go_upto_region 30 with (first | (go_at_call 34; refine (rasks_at _ _ g4 _).mono ?_; rintro e w' ⟨rfl, rfl⟩) | (go_at_call 26; refine (rbit_any _ _).mono ?_; rintro e w' ⟨rfl, rfl⟩))
  have hx : ∀ y : Aft w4.heap.size w4, y.w.heap[w.heap.size]? = some (.cells (ec (x)) 33 (0, 0)) := fun y => (y.block oE4.lt).trans rE4
  have hxm : ∀ y : Aft w4.heap.size w4, y.w.heap[w.heap.size + 1]? = some (.cells (msc m) 28 (0, 0)) := fun y => (y.block oM4.lt).trans rM4
  have hxr : ∀ y : Aft w4.heap.size w4, y.w.heap[w.heap.size + 2]? = some (.cells (ec (enZ)) 33 (0, 0)) := fun y => (y.block oR4.lt).trans rR4
  refine wp_region_aft w4.heap.size (by kernel_rfl) (by kernel_rfl) ?_
  repeat (go_big_quiet_step (first
    | (go_at_call 36; exact calls_aftR (Nat.le_refl _) (rmine_any x _))))
  refine wpQuiet_nil ?_
  rintro _ ⟨y, rfl⟩
  have rE := hx y
  have rM := hxm y
  have rR := hxr y
  have C8 := C4.trans (Below.chg y.below (Nat.le_refl _))
  generalize hw8 : y.w = w8 at *
  clear hx hxm hxr rE4 rM4 rR4 oE4 oM4 oR4 C4 hw8 y
  have oE := old rE
  have oM := old rM
  have oR := old rR
  have o0 := o00.chg C8
  go_upto_region 31 with fail
  go_region_held3 (fun w' => w'.heap[w.heap.size]? = some (.cells (ec (x)) 33 (0, 0)) ∧ w'.heap[w.heap.size + 1]? = some (.cells (msc m) 28 (0, 0))) (exact ⟨Chg.keep (l := [w.heap.size + 2]) (w := w8) (by (repeat' (first | with_reducible exact Tb | with_reducible exact Td | with_reducible exact Chg.refl _ _ | with_reducible refine Chg.alloc ?_ _ | with_reducible refine Chg.drew ?_ | with_reducible refine Chg.putRow ?_ _ _ _ (.inl (List.mem_singleton.2 rfl))))) rE (by simp), Chg.keep (l := [w.heap.size + 2]) (w := w8) (by (repeat' (first | with_reducible exact Tb | with_reducible exact Td | with_reducible exact Chg.refl _ _ | with_reducible refine Chg.alloc ?_ _ | with_reducible refine Chg.drew ?_ | with_reducible refine Chg.putRow ?_ _ _ _ (.inl (List.mem_singleton.2 rfl))))) rM (by simp)⟩)
    (first
      | (go_at_call 35; refine (rbusy_any _ _ _ _ _).mono ?_; rintro e w' ⟨rfl, cb⟩; (first | (have Tb : Chg [w.heap.size + 2] w8 _ := Chg.trans ((Chg.refl [w.heap.size + 2] w8).drew) (Chg.mono cb (fun _ h => absurd h List.not_mem_nil))) | (have Tb : Chg [w.heap.size + 2] w8 _ := Chg.trans (Chg.alloc ((Chg.refl [w.heap.size + 2] w8).drew) _) (Chg.mono cb (fun _ h => absurd h List.not_mem_nil))) | (have Tb : Chg [w.heap.size + 2] w8 _ := Chg.trans (Chg.putRow ((Chg.refl [w.heap.size + 2] w8).drew) (w.heap.size + 2) 0 _ (.inl (List.mem_singleton.2 rfl))) (Chg.mono cb (fun _ h => absurd h List.not_mem_nil))) | (have Tb : Chg [w.heap.size + 2] w8 _ := Chg.trans (Chg.putRow (Chg.alloc ((Chg.refl [w.heap.size + 2] w8).drew) _) (w.heap.size + 2) 0 _ (.inl (List.mem_singleton.2 rfl))) (Chg.mono cb (fun _ h => absurd h List.not_mem_nil))) | (have Tb : Chg [w.heap.size + 2] w8 _ := Chg.trans (Chg.alloc (Chg.putRow ((Chg.refl [w.heap.size + 2] w8).drew) (w.heap.size + 2) 0 _ (.inl (List.mem_singleton.2 rfl))) _) (Chg.mono cb (fun _ h => absurd h List.not_mem_nil))) | (have Tb : Chg [w.heap.size + 2] w8 _ := Chg.trans Td (Chg.mono cb (fun _ h => absurd h List.not_mem_nil))) | (have Tb : Chg [w.heap.size + 2] w8 _ := Chg.trans (Chg.alloc Td _) (Chg.mono cb (fun _ h => absurd h List.not_mem_nil))) | (have Tb : Chg [w.heap.size + 2] w8 _ := Chg.trans (Chg.putRow Td (w.heap.size + 2) 0 _ (.inl (List.mem_singleton.2 rfl))) (Chg.mono cb (fun _ h => absurd h List.not_mem_nil))) | (have Tb : Chg [w.heap.size + 2] w8 _ := Chg.trans (Chg.putRow (Chg.alloc Td _) (w.heap.size + 2) 0 _ (.inl (List.mem_singleton.2 rfl))) (Chg.mono cb (fun _ h => absurd h List.not_mem_nil))) | (have Tb : Chg [w.heap.size + 2] w8 _ := Chg.trans (Chg.alloc (Chg.putRow Td (w.heap.size + 2) 0 _ (.inl (List.mem_singleton.2 rfl))) _) (Chg.mono cb (fun _ h => absurd h List.not_mem_nil)))); (first | (have rRb := cb.keep rR List.not_mem_nil) | (have rRb := cb.keep rRd List.not_mem_nil) | (have rRb := Chg.keep ((Chg.refl [] _).alloc _ |>.trans cb) rR List.not_mem_nil) | (have rRb := Chg.keep ((Chg.refl [] _).alloc _ |>.trans cb) rRd List.not_mem_nil) | (have rRb := cb.keep (put_row rR rfl) List.not_mem_nil) | (have rRb := cb.keep (put_row rRd rfl) List.not_mem_nil)))
      | (go_at_call 39; refine (rall_any _ _ _ _ ?_).mono ?_; (first | exact o0 | exact Nat.lt_of_lt_of_le o0.lt (Chg.size Tb) | exact Nat.lt_of_lt_of_le o0.lt (Chg.size (Chg.putRow Tb (w.heap.size + 2) 0 _ (.inl (List.mem_singleton.2 rfl))))); rintro e w' ⟨A2, n2, rfl, hs2, hA2, cd⟩; (first | (have Td : Chg [w.heap.size + 2] w8 _ := Chg.trans ((Chg.refl [w.heap.size + 2] w8).drew) (Chg.mono cd (fun _ h => absurd h List.not_mem_nil))) | (have Td : Chg [w.heap.size + 2] w8 _ := Chg.trans (Chg.alloc ((Chg.refl [w.heap.size + 2] w8).drew) _) (Chg.mono cd (fun _ h => absurd h List.not_mem_nil))) | (have Td : Chg [w.heap.size + 2] w8 _ := Chg.trans (Chg.putRow ((Chg.refl [w.heap.size + 2] w8).drew) (w.heap.size + 2) 0 _ (.inl (List.mem_singleton.2 rfl))) (Chg.mono cd (fun _ h => absurd h List.not_mem_nil))) | (have Td : Chg [w.heap.size + 2] w8 _ := Chg.trans (Chg.putRow (Chg.alloc ((Chg.refl [w.heap.size + 2] w8).drew) _) (w.heap.size + 2) 0 _ (.inl (List.mem_singleton.2 rfl))) (Chg.mono cd (fun _ h => absurd h List.not_mem_nil))) | (have Td : Chg [w.heap.size + 2] w8 _ := Chg.trans (Chg.alloc (Chg.putRow ((Chg.refl [w.heap.size + 2] w8).drew) (w.heap.size + 2) 0 _ (.inl (List.mem_singleton.2 rfl))) _) (Chg.mono cd (fun _ h => absurd h List.not_mem_nil))) | (have Td : Chg [w.heap.size + 2] w8 _ := Chg.trans Tb (Chg.mono cd (fun _ h => absurd h List.not_mem_nil))) | (have Td : Chg [w.heap.size + 2] w8 _ := Chg.trans (Chg.alloc Tb _) (Chg.mono cd (fun _ h => absurd h List.not_mem_nil))) | (have Td : Chg [w.heap.size + 2] w8 _ := Chg.trans (Chg.putRow Tb (w.heap.size + 2) 0 _ (.inl (List.mem_singleton.2 rfl))) (Chg.mono cd (fun _ h => absurd h List.not_mem_nil))) | (have Td : Chg [w.heap.size + 2] w8 _ := Chg.trans (Chg.putRow (Chg.alloc Tb _) (w.heap.size + 2) 0 _ (.inl (List.mem_singleton.2 rfl))) (Chg.mono cd (fun _ h => absurd h List.not_mem_nil))) | (have Td : Chg [w.heap.size + 2] w8 _ := Chg.trans (Chg.alloc (Chg.putRow Tb (w.heap.size + 2) 0 _ (.inl (List.mem_singleton.2 rfl))) _) (Chg.mono cd (fun _ h => absurd h List.not_mem_nil)))); (first | (have rRd := cd.keep rR List.not_mem_nil) | (have rRd := cd.keep rRb List.not_mem_nil) | (have rRd := Chg.keep ((Chg.refl [] _).alloc _ |>.trans cd) rR List.not_mem_nil) | (have rRd := Chg.keep ((Chg.refl [] _).alloc _ |>.trans cd) rRb List.not_mem_nil) | (have rRd := cd.keep (put_row rR rfl) List.not_mem_nil) | (have rRd := cd.keep (put_row rRb rfl) List.not_mem_nil)); (first | (have hA3 : ∀ a, A2 = some a → w8.heap.size ≤ a.block := fun a ha => Nat.le_trans (Chg.size Tb) (hA2 a ha)) | (have hA3 : ∀ a, A2 = some a → w8.heap.size ≤ a.block := fun a ha => Nat.le_trans (Chg.size (Chg.putRow Tb (w.heap.size + 2) 0 _ (.inl (List.mem_singleton.2 rfl)))) (hA2 a ha)) | (have hA3 : ∀ a, A2 = some a → w8.heap.size ≤ a.block := fun a ha => hA2 a ha) | (have hA3 : ∀ a, A2 = some a → w8.heap.size ≤ a.block := (by intro a ha; have := hA2 a ha; simp at this; omega)))))
  all_goals
    go_wp2_with fail
    refine bodyPost_ret (results_er3 (by rfl) _ _ (w.heap.size + 2) (busyE x 5 c o) (0, 0) (by rfl) (by first | (simp [rRd]; done) | (simp [rRb]; done)) _ _ (by rfl) (by rfl)) (by rfl) ?_
    first
      | exact En3r.S C8 oR (by omega) hs2 hA3 Td (Chg.refl _ _)
      | exact En3r.S C8 oR (by omega) hs2 hA3 Td (Chg.putRow (Chg.refl _ _) (w.heap.size + 2) 0 _ (.inl (List.mem_singleton.2 rfl)))
      | exact En3r.S C8 oR (by omega) hs2 hA3 Td (Chg.mono cb (fun _ h => absurd h List.not_mem_nil))
      | exact En3r.S C8 oR (by omega) hs2 hA3 Td (Chg.putRow (Chg.mono cb (fun _ h => absurd h List.not_mem_nil)) (w.heap.size + 2) 0 _ (.inl (List.mem_singleton.2 rfl)))

set_option maxHeartbeats 4000000 in
set_option maxRecDepth 100000 in
theorem rask_no (x : En) (c : Int) (m : Ms) (w : World) (h : askArg x c m = false ∨ x.bu ≠ 0 ∨ x.he = false) : Calls Tryd.prog 10 #[.agg (ec x), .int .i64 c, .agg (msc m)] w (En3r w (askE x c m)) := by
  cases g1 : goodE x
  · skip
    rw [show askE x c m = ((enZ, []), 1) from by simp [askE, askArg, g1]]
    go_enter Tryd.func10, Tryd.ntmps10
    try dsimp only [List.append]
    go_wp2_with fail
    refine gen_calls3 (w := w) (b1 := w.heap.size) (x1 := .cells (ec (x)) 33 (0, 0)) (b2 := w.heap.size + 1) (x2 := .cells (msc m) 28 (0, 0)) (b3 := w.heap.size + 2) (x3 := .cells (ec (enZ)) 33 (0, 0)) (by (repeat' (first | with_reducible exact Chg.refl _ _ | with_reducible assumption | with_reducible refine Chg.drew ?_ | with_reducible refine Chg.drewN ?_ _ | with_reducible refine Chg.alloc ?_ _ | with_reducible refine Chg.putRow ?_ _ _ _ (.inr ?_) | with_reducible refine Chg.setCell ?_ _ _ _ (.inr ?_)  | (show _ ≤ _; first | exact Nat.le_refl _ | omega | (simp; done))))) (by simp [*]) (by simp [*]) (by simp [*]) fun w1 C1 rE rM rR => ?_
    have oE := old rE
    have oM := old rM
    have oR := old rR
    refine (rgood_at x _ g1 w1).mono ?_
    rintro e w3 ⟨rfl, c3⟩
    have rE3 := c3.keep rE (by simp)
    have rM3 := c3.keep rM (by simp)
    have rR3 := c3.keep rR (by simp)
    have C3 := C1.trans c3
    clear rE rM rR oE oM oR C1 c3
    have oE3 := old rE3
    have oM3 := old rM3
    have oR3 := old rR3
    go_wp2_with fail
    refine bodyPost_ret (v := .tuple #[.agg (ec enZ), .slice none 0 0, .int .i64 1]) ?_ (by rfl) ?_
    · exact results_er3 (by rfl) _ _ (w.heap.size + 2) enZ (0, 0) (by rfl) (by simp [rR3]; try rfl) _ _ (by rfl) (by rfl)
    exact En3r.err _ _ _ (by (repeat' (first | with_reducible exact Chg.refl _ _ | with_reducible assumption | with_reducible refine Chg.drew ?_ | with_reducible refine Chg.drewN ?_ _ | with_reducible refine Chg.alloc ?_ _ | with_reducible refine Chg.putRow ?_ _ _ _ (.inr ?_) | with_reducible refine Chg.setCell ?_ _ _ _ (.inr ?_)  | (show _ ≤ _; first | exact Nat.le_refl _ | omega | (simp; done)))))
  cases g2 : isC c
  · skip
    rw [show askE x c m = ((enZ, []), 1) from by simp [askE, askArg, g2]]
    go_enter Tryd.func10, Tryd.ntmps10
    try dsimp only [List.append]
    go_wp2_with fail
    refine gen_calls3 (w := w) (b1 := w.heap.size) (x1 := .cells (ec (x)) 33 (0, 0)) (b2 := w.heap.size + 1) (x2 := .cells (msc m) 28 (0, 0)) (b3 := w.heap.size + 2) (x3 := .cells (ec (enZ)) 33 (0, 0)) (by (repeat' (first | with_reducible exact Chg.refl _ _ | with_reducible assumption | with_reducible refine Chg.drew ?_ | with_reducible refine Chg.drewN ?_ _ | with_reducible refine Chg.alloc ?_ _ | with_reducible refine Chg.putRow ?_ _ _ _ (.inr ?_) | with_reducible refine Chg.setCell ?_ _ _ _ (.inr ?_)  | (show _ ≤ _; first | exact Nat.le_refl _ | omega | (simp; done))))) (by simp [*]) (by simp [*]) (by simp [*]) fun w1 C1 rE rM rR => ?_
    have oE := old rE
    have oM := old rM
    have oR := old rR
    refine (rgood_at x _ g1 w1).mono ?_
    rintro e w3 ⟨rfl, c3⟩
    have rE3 := c3.keep rE (by simp)
    have rM3 := c3.keep rM (by simp)
    have rR3 := c3.keep rR (by simp)
    have C3 := C1.trans c3
    clear rE rM rR oE oM oR C1 c3
    have oE3 := old rE3
    have oM3 := old rM3
    have oR3 := old rR3
    go_wp2_with (go_at_call 32; refine (rcore_at _ _ g2 _).mono ?_; rintro e w' ⟨rfl, rfl⟩)
    refine bodyPost_ret (v := .tuple #[.agg (ec enZ), .slice none 0 0, .int .i64 1]) ?_ (by rfl) ?_
    · exact results_er3 (by rfl) _ _ (w.heap.size + 2) enZ (0, 0) (by rfl) (by simp [rR3]; try rfl) _ _ (by rfl) (by rfl)
    exact En3r.err _ _ _ (by (repeat' (first | with_reducible exact Chg.refl _ _ | with_reducible assumption | with_reducible refine Chg.drew ?_ | with_reducible refine Chg.drewN ?_ _ | with_reducible refine Chg.alloc ?_ _ | with_reducible refine Chg.putRow ?_ _ _ _ (.inr ?_) | with_reducible refine Chg.setCell ?_ _ _ _ (.inr ?_)  | (show _ ≤ _; first | exact Nat.le_refl _ | omega | (simp; done)))))
  cases g3 : mg m
  · skip
    rw [show askE x c m = ((enZ, []), 1) from by simp [askE, askArg, g3]]
    go_enter Tryd.func10, Tryd.ntmps10
    try dsimp only [List.append]
    go_wp2_with fail
    refine gen_calls3 (w := w) (b1 := w.heap.size) (x1 := .cells (ec (x)) 33 (0, 0)) (b2 := w.heap.size + 1) (x2 := .cells (msc m) 28 (0, 0)) (b3 := w.heap.size + 2) (x3 := .cells (ec (enZ)) 33 (0, 0)) (by (repeat' (first | with_reducible exact Chg.refl _ _ | with_reducible assumption | with_reducible refine Chg.drew ?_ | with_reducible refine Chg.drewN ?_ _ | with_reducible refine Chg.alloc ?_ _ | with_reducible refine Chg.putRow ?_ _ _ _ (.inr ?_) | with_reducible refine Chg.setCell ?_ _ _ _ (.inr ?_)  | (show _ ≤ _; first | exact Nat.le_refl _ | omega | (simp; done))))) (by simp [*]) (by simp [*]) (by simp [*]) fun w1 C1 rE rM rR => ?_
    have oE := old rE
    have oM := old rM
    have oR := old rR
    refine (rgood_at x _ g1 w1).mono ?_
    rintro e w3 ⟨rfl, c3⟩
    have rE3 := c3.keep rE (by simp)
    have rM3 := c3.keep rM (by simp)
    have rR3 := c3.keep rR (by simp)
    have C3 := C1.trans c3
    clear rE rM rR oE oM oR C1 c3
    have oE3 := old rE3
    have oM3 := old rM3
    have oR3 := old rR3
    go_wp2_with ((go_at_call 32; refine (rcore_at _ _ g2 _).mono ?_; rintro e w' ⟨rfl, rfl⟩))
    refine (rmgood_at m _ g3 w3).mono ?_
    rintro e w4 ⟨rfl, c4⟩
    have rE4 := c4.keep rE3 (by simp)
    have rM4 := c4.keep rM3 (by simp)
    have rR4 := c4.keep rR3 (by simp)
    have C4 := C3.trans c4
    clear rE3 rM3 rR3 oE3 oM3 oR3 C3 c4
    have oE4 := old rE4
    have oM4 := old rM4
    have oR4 := old rR4
    go_wp2_with fail
    refine bodyPost_ret (v := .tuple #[.agg (ec enZ), .slice none 0 0, .int .i64 1]) ?_ (by rfl) ?_
    · exact results_er3 (by rfl) _ _ (w.heap.size + 2) enZ (0, 0) (by rfl) (by simp [rR4]; try rfl) _ _ (by rfl) (by rfl)
    exact En3r.err _ _ _ (by (repeat' (first | with_reducible exact Chg.refl _ _ | with_reducible assumption | with_reducible refine Chg.drew ?_ | with_reducible refine Chg.drewN ?_ _ | with_reducible refine Chg.alloc ?_ _ | with_reducible refine Chg.putRow ?_ _ _ _ (.inr ?_) | with_reducible refine Chg.setCell ?_ _ _ _ (.inr ?_)  | (show _ ≤ _; first | exact Nat.le_refl _ | omega | (simp; done)))))
  cases g4 : asksB m.kd
  · skip
    rw [show askE x c m = ((enZ, []), 1) from by simp [askE, askArg, g4]]
    go_enter Tryd.func10, Tryd.ntmps10
    try dsimp only [List.append]
    go_wp2_with fail
    refine gen_calls3 (w := w) (b1 := w.heap.size) (x1 := .cells (ec (x)) 33 (0, 0)) (b2 := w.heap.size + 1) (x2 := .cells (msc m) 28 (0, 0)) (b3 := w.heap.size + 2) (x3 := .cells (ec (enZ)) 33 (0, 0)) (by (repeat' (first | with_reducible exact Chg.refl _ _ | with_reducible assumption | with_reducible refine Chg.drew ?_ | with_reducible refine Chg.drewN ?_ _ | with_reducible refine Chg.alloc ?_ _ | with_reducible refine Chg.putRow ?_ _ _ _ (.inr ?_) | with_reducible refine Chg.setCell ?_ _ _ _ (.inr ?_)  | (show _ ≤ _; first | exact Nat.le_refl _ | omega | (simp; done))))) (by simp [*]) (by simp [*]) (by simp [*]) fun w1 C1 rE rM rR => ?_
    have oE := old rE
    have oM := old rM
    have oR := old rR
    refine (rgood_at x _ g1 w1).mono ?_
    rintro e w3 ⟨rfl, c3⟩
    have rE3 := c3.keep rE (by simp)
    have rM3 := c3.keep rM (by simp)
    have rR3 := c3.keep rR (by simp)
    have C3 := C1.trans c3
    clear rE rM rR oE oM oR C1 c3
    have oE3 := old rE3
    have oM3 := old rM3
    have oR3 := old rR3
    go_wp2_with ((go_at_call 32; refine (rcore_at _ _ g2 _).mono ?_; rintro e w' ⟨rfl, rfl⟩))
    refine (rmgood_at m _ g3 w3).mono ?_
    rintro e w4 ⟨rfl, c4⟩
    have rE4 := c4.keep rE3 (by simp)
    have rM4 := c4.keep rM3 (by simp)
    have rR4 := c4.keep rR3 (by simp)
    have C4 := C3.trans c4
    clear rE3 rM3 rR3 oE3 oM3 oR3 C3 c4
    have oE4 := old rE4
    have oM4 := old rM4
    have oR4 := old rR4
    go_wp2_with (go_at_call 34; refine (rasks_at _ _ g4 _).mono ?_; rintro e w' ⟨rfl, rfl⟩)
    refine bodyPost_ret (v := .tuple #[.agg (ec enZ), .slice none 0 0, .int .i64 1]) ?_ (by rfl) ?_
    · exact results_er3 (by rfl) _ _ (w.heap.size + 2) enZ (0, 0) (by rfl) (by simp [rR4]; try rfl) _ _ (by rfl) (by rfl)
    exact En3r.err _ _ _ (by (repeat' (first | with_reducible exact Chg.refl _ _ | with_reducible assumption | with_reducible refine Chg.drew ?_ | with_reducible refine Chg.drewN ?_ _ | with_reducible refine Chg.alloc ?_ _ | with_reducible refine Chg.putRow ?_ _ _ _ (.inr ?_) | with_reducible refine Chg.setCell ?_ _ _ _ (.inr ?_)  | (show _ ≤ _; first | exact Nat.le_refl _ | omega | (simp; done)))))
  have ga : askArg x c m = true := by simp [askArg, g1, g2, g3, g4]
  by_cases hb : x.bu = 0
  · have t1 : (x.bu != 0) = false := by simp [hb]
    have hh : x.he = false := by
      rcases h with h | h | h
      · rw [ga] at h; cases h
      · exact absurd hb h
      · exact h
    rw [show askE x c m = ((enZ, []), 16) from by simp [askE, ga, hb, hh]]
    clear ga h
    go_enter Tryd.func10, Tryd.ntmps10
    try dsimp only [List.append]
    go_wp2_with fail
    refine gen_calls3 (w := w) (b1 := w.heap.size) (x1 := .cells (ec (x)) 33 (0, 0)) (b2 := w.heap.size + 1) (x2 := .cells (msc m) 28 (0, 0)) (b3 := w.heap.size + 2) (x3 := .cells (ec (enZ)) 33 (0, 0)) (by (repeat' (first | with_reducible exact Chg.refl _ _ | with_reducible assumption | with_reducible refine Chg.drew ?_ | with_reducible refine Chg.drewN ?_ _ | with_reducible refine Chg.alloc ?_ _ | with_reducible refine Chg.putRow ?_ _ _ _ (.inr ?_) | with_reducible refine Chg.setCell ?_ _ _ _ (.inr ?_)  | (show _ ≤ _; first | exact Nat.le_refl _ | omega | (simp; done))))) (by simp [*]) (by simp [*]) (by simp [*]) fun w1 C1 rE rM rR => ?_
    have oE := old rE
    have oM := old rM
    have oR := old rR
    refine (rgood_at x _ g1 w1).mono ?_
    rintro e w3 ⟨rfl, c3⟩
    have rE3 := c3.keep rE (by simp)
    have rM3 := c3.keep rM (by simp)
    have rR3 := c3.keep rR (by simp)
    have C3 := C1.trans c3
    clear rE rM rR oE oM oR C1 c3
    have oE3 := old rE3
    have oM3 := old rM3
    have oR3 := old rR3
    go_wp2_with ((go_at_call 32; refine (rcore_at _ _ g2 _).mono ?_; rintro e w' ⟨rfl, rfl⟩))
    refine (rmgood_at m _ g3 w3).mono ?_
    rintro e w4 ⟨rfl, c4⟩
    have rE4 := c4.keep rE3 (by simp)
    have rM4 := c4.keep rM3 (by simp)
    have rR4 := c4.keep rR3 (by simp)
    have C4 := C3.trans c4
    clear rE3 rM3 rR3 oE3 oM3 oR3 C3 c4
    have oE4 := old rE4
    have oM4 := old rM4
    have oR4 := old rR4
    go_wp2_with (go_at_call 34; refine (rasks_at _ _ g4 _).mono ?_; rintro e w' ⟨rfl, rfl⟩)
    refine bodyPost_ret (v := .tuple #[.agg (ec enZ), .slice none 0 0, .int .i64 16]) ?_ (by rfl) ?_
    · exact results_er3 (by rfl) _ _ (w.heap.size + 2) enZ (0, 0) (by rfl) (by simp [rR4]; try rfl) _ _ (by rfl) (by rfl)
    exact En3r.err _ _ _ (by (repeat' (first | with_reducible exact Chg.refl _ _ | with_reducible assumption | with_reducible refine Chg.drew ?_ | with_reducible refine Chg.drewN ?_ _ | with_reducible refine Chg.alloc ?_ _ | with_reducible refine Chg.putRow ?_ _ _ _ (.inr ?_) | with_reducible refine Chg.setCell ?_ _ _ _ (.inr ?_)  | (show _ ≤ _; first | exact Nat.le_refl _ | omega | (simp; done)))))
  · have t1 : (x.bu != 0) = true := by simpa using hb
    rw [show askE x c m = ((enZ, []), 15) from by simp [askE, ga, hb]]
    clear ga h
    go_enter Tryd.func10, Tryd.ntmps10
    try dsimp only [List.append]
    go_wp2_with fail
    refine gen_calls3 (w := w) (b1 := w.heap.size) (x1 := .cells (ec (x)) 33 (0, 0)) (b2 := w.heap.size + 1) (x2 := .cells (msc m) 28 (0, 0)) (b3 := w.heap.size + 2) (x3 := .cells (ec (enZ)) 33 (0, 0)) (by (repeat' (first | with_reducible exact Chg.refl _ _ | with_reducible assumption | with_reducible refine Chg.drew ?_ | with_reducible refine Chg.drewN ?_ _ | with_reducible refine Chg.alloc ?_ _ | with_reducible refine Chg.putRow ?_ _ _ _ (.inr ?_) | with_reducible refine Chg.setCell ?_ _ _ _ (.inr ?_)  | (show _ ≤ _; first | exact Nat.le_refl _ | omega | (simp; done))))) (by simp [*]) (by simp [*]) (by simp [*]) fun w1 C1 rE rM rR => ?_
    have oE := old rE
    have oM := old rM
    have oR := old rR
    refine (rgood_at x _ g1 w1).mono ?_
    rintro e w3 ⟨rfl, c3⟩
    have rE3 := c3.keep rE (by simp)
    have rM3 := c3.keep rM (by simp)
    have rR3 := c3.keep rR (by simp)
    have C3 := C1.trans c3
    clear rE rM rR oE oM oR C1 c3
    have oE3 := old rE3
    have oM3 := old rM3
    have oR3 := old rR3
    go_wp2_with ((go_at_call 32; refine (rcore_at _ _ g2 _).mono ?_; rintro e w' ⟨rfl, rfl⟩))
    refine (rmgood_at m _ g3 w3).mono ?_
    rintro e w4 ⟨rfl, c4⟩
    have rE4 := c4.keep rE3 (by simp)
    have rM4 := c4.keep rM3 (by simp)
    have rR4 := c4.keep rR3 (by simp)
    have C4 := C3.trans c4
    clear rE3 rM3 rR3 oE3 oM3 oR3 C3 c4
    have oE4 := old rE4
    have oM4 := old rM4
    have oR4 := old rR4
    go_wp2_with (go_at_call 34; refine (rasks_at _ _ g4 _).mono ?_; rintro e w' ⟨rfl, rfl⟩)
    refine bodyPost_ret (v := .tuple #[.agg (ec enZ), .slice none 0 0, .int .i64 15]) ?_ (by rfl) ?_
    · exact results_er3 (by rfl) _ _ (w.heap.size + 2) enZ (0, 0) (by rfl) (by simp [rR4]; try rfl) _ _ (by rfl) (by rfl)
    exact En3r.err _ _ _ (by (repeat' (first | with_reducible exact Chg.refl _ _ | with_reducible assumption | with_reducible refine Chg.drew ?_ | with_reducible refine Chg.drewN ?_ _ | with_reducible refine Chg.alloc ?_ _ | with_reducible refine Chg.putRow ?_ _ _ _ (.inr ?_) | with_reducible refine Chg.setCell ?_ _ _ _ (.inr ?_)  | (show _ ≤ _; first | exact Nat.le_refl _ | omega | (simp; done)))))

theorem rask_any (x : En) (c : Int) (m : Ms) (w : World) (o00 : Old w 0) : Calls Tryd.prog 10 #[.agg (ec x), .int .i64 c, .agg (msc m)] w (En3r w (askE x c m)) := by
  by_cases hn : askArg x c m = false ∨ x.bu ≠ 0 ∨ x.he = false
  · exact rask_no x c m w hn
  have ga : askArg x c m = true := by
    cases h : askArg x c m
    · exact absurd (.inl h) hn
    · rfl
  have hb : x.bu = 0 := Decidable.byContradiction fun h => hn (.inr (.inl h))
  have hh : x.he = true := by
    cases h : x.he
    · exact absurd (.inr (.inr h)) hn
    · rfl
  have g := ga
  unfold askArg at g
  rw [Bool.and_eq_true, Bool.and_eq_true, Bool.and_eq_true] at g
  obtain ⟨⟨⟨g1, g2⟩, g3⟩, g4⟩ := g
  rw [show askE x c m = (deedE x c m, 0) from by simp [askE, ga, hb, hh]]
  have hk : m.kd = 1 ∨ m.kd = 2 ∨ m.kd = 3 ∨ m.kd = 4 ∨ m.kd = 5 := by simp [asksB] at g4; omega
  rcases hk with hk | hk | hk | hk | hk
  · rw [show deedE x c m = getSE x c m by simp [deedE, hk]]
    by_cases h1 : x.ow ≠ -1 ∧ x.ow ≠ c
    · rcases good_ow g1 with h | ⟨h, _⟩
      · exact absurd h h1.1
      · exact rask_S1 x c m w o00 g1 g2 g3 g4 hb hh h h1.2 hk
    · by_cases h2 : x.sh = 0#8
      · exact rask_S2 x c m w o00 g1 g2 g3 g4 hb hh h1 h2 hk
      · exact rask_S3 x c m w o00 g1 g2 g3 g4 hb hh h1 h2 hk
  · rw [show deedE x c m = getME x c m by simp [deedE, hk]]
    by_cases h1 : ((bitM x.ow ||| x.sh) &&& ~~~(bitM c)) = 0#8
    · exact rask_M1 x c m w o00 g1 g2 g3 g4 hb hh h1 hk
    · exact rask_M2 x c m w o00 g1 g2 g3 g4 hb hh h1 hk
  · rw [show deedE x c m = putE x c m by simp [deedE, hk]]
    by_cases h1 : x.ow = c
    · cases h2 : m.di
      · exact rask_P2 x c m w o00 g1 g2 g3 g4 hb hh h1 h2 hk
      · exact rask_P1 x c m w o00 g1 g2 g3 g4 hb hh h1 h2 hk
    · exact rask_P3 x c m w o00 g1 g2 g3 g4 hb hh h1 hk
  · rw [show deedE x c m = cleanE x c m by simp [deedE, hk]]
    exact rask_C x c m w o00 g1 g2 g3 g4 hb hh hk
  · rw [show deedE x c m = wipeE x c m by simp [deedE, hk]]
    exact rask_W x c m w o00 g1 g2 g3 g4 hb hh hk
end Go.Proofs.YtkaabiiedfkaaaaDoor
