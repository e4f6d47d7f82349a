/- Which entries are good: walked. No condition. -/
import Derived.Test.YtkaabiiedfkaaaaDoorDirb
import Derived.Laws.StructEq
import Derived.ChangeKeysEq
import Derived.BigQuiet
namespace Go.Proofs.YtkaabiiedfkaaaaDoor
open Go.RowKit
set_option linter.unusedVariables false
set_option maxHeartbeats 1000000
attribute [local go_sem ↓] append_appS copy_copS clear_clrS make_mkS slice_slS cell_row frozen_row loadLine storeLine loadMsg storeMsg heap_drew heap_drewN heap_alloc heap_past heap_setCell heap_putRow vs_get msc_kd msc_li msc_di msc_ke
attribute [local go_sem] rowCell_some rowFrozen_some rowHas_some rowIn_some rowPart_full rowPart_lit rowPut_full rowPut_lit rowSet_some size_putRow vs_size vs_one wideLine wideMsg run_loadS run_storeS run_appS run_copS run_clrS run_mkS run_slS loadW_at storeW_at fit_all fit_le one_int one_bool one_pointer one_slice allOne_list putRow_new ne_size1 ne_size2 ne_size3 ne_size4 zero8_length line_eq lit8 msc_size msc_one msc_part msc_in fold_msc
attribute [local simp ↓] heap_drew heap_drewN heap_alloc heap_past heap_setCell heap_putRow
attribute [local simp] rowCell_some rowFrozen_some rowHas_some rowIn_some rowPart_full rowPart_lit rowPut_full rowPut_lit rowSet_some size_putRow vs_size fit_all putRow_new ne_size1 ne_size2 ne_size3 ne_size4 zero8_length msc_size
attribute [local go_sem ↓] ec_he ec_di ec_ow ec_sh ec_bu ec_by ec_wa sc_to
attribute [local go_sem] mi_and mi_or mi_not mi_beq0 mi_bne0 ec_size ec_one ec_part ec_in ec_has ec_setDi ec_setOw ec_setSh ec_setBu ec_setBy ec_setWa ec_setSh0 ec_setWa0 ec_putM sc_size sc_one sc_part sc_in
attribute [local simp] ec_size sc_size ec_setDi ec_setOw ec_setSh ec_setBu ec_setBy ec_setWa ec_setSh0 ec_setWa0 ec_putM
attribute [local go_sem ↓] loadEn storeEn loadSd storeSd en_z0
attribute [local go_sem] wideEn wideSd fold_sc size11 putRow_newB putRow_newC ms5_lit
attribute [local simp] en_z0 putRow_newB putRow_newC fit_le ec_has


theorem dempty_any (w : World) : Calls Tryd.prog 18 #[] w fun e w' => e = .returned (.agg (ec enE)) ∧ Chg [] w w' := by
  go_enter Tryd.func18, Tryd.ntmps18
  try dsimp only [List.append]
  go_wp2
  refine bodyPost_ret (v := .agg (ec enE)) ?_ (by rfl) ?_
  · exact results_en1 (by rfl) _ _ (w.heap.size) enE (0, 0) (by rfl) (by simp; rfl)
  exact ⟨rfl, by (repeat' (first | with_reducible exact Chg.refl _ _ | with_reducible assumption | with_reducible refine Chg.drew ?_ | with_reducible refine Chg.drewN ?_ _ | with_reducible refine Chg.alloc ?_ _ | with_reducible refine Chg.putRow ?_ _ _ _ (.inr ?_) | with_reducible refine Chg.setCell ?_ _ _ _ (.inr ?_)  | (show _ ≤ _; first | exact Nat.le_refl _ | omega | (simp; done))))⟩
/-! ### '==' of entries -/
def eqE (a b : En) : Bool := a.he == b.he && (a.di == b.di && (a.l == b.l && (a.ow == b.ow && (a.sh == b.sh && (a.bu == b.bu && (a.by_ == b.by_ && a.wa == b.wa))))))
theorem eqE_iff (a b : En) : eqE a b = decide (a = b) := by
  rw [Bool.eq_iff_iff, decide_eq_true_eq]
  simp only [eqE, Bool.and_eq_true, beq_iff_eq]
  constructor
  · rintro ⟨h1, h2, h3, h4, h5, h6, h7, h8⟩; exact En.same h1 h2 h3 h4 h5 h6 h7 h8
  · rintro rfl; exact ⟨rfl, rfl, rfl, rfl, rfl, rfl, rfl, rfl⟩
theorem line_partE (e : En) (w : World) : (part 24 (ec e) 2).run Tryd.prog w = .ok (.agg (vs e.l)) w := by
  obtain ⟨i, hi⟩ : ∃ i, Tryd.prog.info? 24 = some i := Option.isSome_iff_exists.1 (by kernel_rfl)
  have hc : Tryd.prog.cellsOf 24 = 8 := by kernel_rfl
  have he : (ec e).extract 2 (2 + 8) = vs e.l := by
    obtain ⟨he, di, l, ow, sh, bu, by_, wa, h⟩ := e
    obtain ⟨a0, a1, a2, a3, a4, a5, a6, a7, rfl⟩ := eight h
    rfl
  simp [part, isAgg, run_underlying Tryd.underlying24, he]

theorem run_ite' {P : Program} {α : Type} (c : Prop) [Decidable c] (x y : Sem α) (w : World) : (if c then x else y).run P w = if c then x.run P w else y.run P w := by split <;> rfl

theorem en_eq (a b : En) (w : World) : (Op.equalIn 10000 26 (.agg (ec a)) (.agg (ec b))).run Tryd.prog w = .ok (decide (a = b)) w := by
  have p := fun (x : En) => run_part_plain (P := Tryd.prog) w (e := 4) (by kernel_rfl) (ec_he x)
  have q := fun (x : En) => run_part_plain (P := Tryd.prog) w (e := 4) (by kernel_rfl) (ec_di x)
  have r := fun (x : En) => run_part_plain (P := Tryd.prog) w (e := 3) (by kernel_rfl) (ec_ow x)
  have s := fun (x : En) => run_part_plain (P := Tryd.prog) w (e := 5) (by kernel_rfl) (ec_sh x)
  have t := fun (x : En) => run_part_plain (P := Tryd.prog) w (e := 3) (by kernel_rfl) (ec_bu x)
  have u := fun (x : En) => run_part_plain (P := Tryd.prog) w (e := 3) (by kernel_rfl) (ec_by x)
  have v := fun (x : En) => run_part_plain (P := Tryd.prog) w (e := 5) (by kernel_rfl) (ec_wa x)
  have l := fun (x : En) => line_partE x w
  have e0 := fun a b => run_equalIn_int w 9998 3 .i64 .i64 a b Tryd.underlying3
  have e8 := fun a b => run_equalIn_int w 9998 5 .u8 .u8 a b Tryd.underlying5
  have e1 := fun a b => run_equalIn_bool w 9998 4 a b Tryd.underlying4
  have e2 : (Op.equalIn 9999 24 (.agg (vs a.l)) (.agg (vs b.l))).run Tryd.prog w = .ok (a.l == b.l) w := by
    obtain ⟨i0, hi0⟩ : ∃ i, Tryd.prog.info? 22 = some i := Option.isSome_iff_exists.1 (by kernel_rfl)
    rw [run_equalIn_array w 9998 _ _ Tryd.underlying24 hi0, show Tryd.prog.cellsOf 22 = 1 by kernel_rfl]
    have := eqItems_ints (P := Tryd.prog) w 9997 (k := .u64) Tryd.underlying22 (by kernel_rfl) a.l b.l (List.range 8) (by intro i hi; have := a.h; have := b.h; simp at hi; omega)
    unfold vs
    rw [this]
    congr 1
    rw [Bool.eq_iff_iff]
    simp only [List.all_eq_true, List.mem_range, beq_iff_eq]
    constructor
    · intro h
      apply List.ext_getElem (by rw [a.h, b.h])
      intro j h1 h2
      have := h j (by rw [a.h] at h1; exact h1)
      simpa [h1, h2] using this
    · intro h j _; rw [h]
  rw [← eqE_iff, run_equalIn_struct w 9999 26 _ _ (by simp only [Program.fieldsOf, Tryd.underlying26]) (by kernel_rfl)]
  simp only [Program.fieldsOf, Tryd.underlying26]
  unfold eqE
  simp only [← mi_beq]
  simp only [Op.eqFields, ne_eq, String.reduceEq, not_false_eq_true, ↓reduceIte, Sem.run_bind, p, q, r, s, t, u, v, l, e0, e8, e1, e2, Result.andThen_ok, run_ite', Bool.not_eq_true']
  generalize (a.he == b.he) = x1
  generalize (a.di == b.di) = x2
  generalize (a.l == b.l) = x3
  generalize (a.ow == b.ow) = x4
  generalize (mi a.sh == mi b.sh) = x5
  generalize (a.bu == b.bu) = x6
  generalize (a.by_ == b.by_) = x7
  generalize (mi a.wa == mi b.wa) = x8
  clear p q r s t u v l e0 e8 e1 e2
  cases x1
  · simp
  cases x2
  · simp
  cases x3
  · simp
  cases x4
  · simp
  cases x5
  · simp
  cases x6
  · simp
  cases x7
  · simp
  cases x8 <;> simp

theorem calls_aftC {P : Program} {f : FuncId} {args : Array Value} {N : Nat} {W : World} {x : Aft N W} {v : Value} (hN : N ≤ W.heap.size)
    (h : Calls P f args x.w fun e w' => e = .returned v ∧ Chg [] x.w w') : Calls P f args x.w fun e w'' => e = .returned v ∧ ∃ y : Aft N W, w'' = y.w :=
  calls_aft hN (h.mono fun _ _ ⟨he, hc⟩ => ⟨he, hc.below (Nat.le_refl _) (by simp)⟩)
theorem dcore_at (c : Int) (b : Bool) (h : isC c = b) (w : World) : Calls Tryd.prog 28 #[.int .i64 c] w fun e w' => e = .returned (.bool b) ∧ w = w' := h ▸ dcore_any c w
/-! ### What is good -/
theorem dgoodOwner_any (x : En) (w : World) : Calls Tryd.prog 40 #[.agg (ec x)] w fun e w' => e = .returned (.bool (goodOw x)) ∧ Chg [] w w' := by
  unfold goodOw
  cases t1 : (x.ow == -1)
  · cases t2 : isC x.ow
    all_goals
      go_enter Tryd.func40, Tryd.ntmps40
      try dsimp only [List.append]
      go_wp2_with (go_at_call 28; refine (dcore_at _ _ t2 _).mono ?_; rintro e w' ⟨rfl, rfl⟩)
      go_ret
      exact ⟨by simp, by (repeat' (first | with_reducible exact Chg.refl _ _ | with_reducible assumption | with_reducible refine Chg.drew ?_ | with_reducible refine Chg.drewN ?_ _ | with_reducible refine Chg.alloc ?_ _ | with_reducible refine Chg.putRow ?_ _ _ _ (.inr ?_) | with_reducible refine Chg.setCell ?_ _ _ _ (.inr ?_)  | (show _ ≤ _; first | exact Nat.le_refl _ | omega | (simp; done))))⟩
  · skip
    go_enter Tryd.func40, Tryd.ntmps40
    try dsimp only [List.append]
    go_wp2_with fail
    go_ret
    exact ⟨by simp, by (repeat' (first | with_reducible exact Chg.refl _ _ | with_reducible assumption | with_reducible refine Chg.drew ?_ | with_reducible refine Chg.drewN ?_ _ | with_reducible refine Chg.alloc ?_ _ | with_reducible refine Chg.putRow ?_ _ _ _ (.inr ?_) | with_reducible refine Chg.setCell ?_ _ _ _ (.inr ?_)  | (show _ ≤ _; first | exact Nat.le_refl _ | omega | (simp; done))))⟩
theorem dgoodWait_any (x : En) (w : World) : Calls Tryd.prog 58 #[.agg (ec x)] w fun e w' => e = .returned (.bool (goodWa x)) ∧ Chg [] w w' := by
  unfold goodWa
  cases t2 : isC x.by_
  all_goals
    go_enter Tryd.func58, Tryd.ntmps58
    try dsimp only [List.append]
    go_wp2_with fail
    refine gen_world1 (w := w) (b1 := w.heap.size) (x1 := .cells (ec (x)) 26 (0, 0)) (by (repeat' (first | with_reducible exact Chg.refl _ _ | with_reducible assumption | with_reducible refine Chg.drew ?_ | with_reducible refine Chg.drewN ?_ _ | with_reducible refine Chg.alloc ?_ _ | with_reducible refine Chg.putRow ?_ _ _ _ (.inr ?_) | with_reducible refine Chg.setCell ?_ _ _ _ (.inr ?_)  | (show _ ≤ _; first | exact Nat.le_refl _ | omega | (simp; done))))) (by simp [*]) fun w1 C1 rE => ?_
    have oE := old rE
    have hx : ∀ y : Aft w1.heap.size w1, y.w.heap[w.heap.size]? = some (.cells (ec (x)) 26 (0, 0)) := fun y => (y.block oE.lt).trans rE
    refine wp_region_aft w1.heap.size (by kernel_rfl) (by kernel_rfl) ?_
    repeat (go_big_quiet_step (first
      | (go_at_call 28; exact calls_aft_same (dcore_at _ _ t2 _))
      | (go_at_call 65; exact calls_aftC (Nat.le_refl _) (dholders_any _ _))))
    refine wpQuiet_nil ?_
    rintro _ ⟨y, rfl⟩
    go_wp2_with fail
    go_ret
    exact ⟨by simp, C1.trans (Below.chg y.below (Nat.le_refl _))⟩

theorem dgoodWait_at (x : En) (b : Bool) (h : goodWa x = b) (w : World) : Calls Tryd.prog 58 #[.agg (ec x)] w fun e w' => e = .returned (.bool b) ∧ Chg [] w w' := h ▸ dgoodWait_any x w
theorem dgoodBusy_any (x : En) (w : World) : Calls Tryd.prog 41 #[.agg (ec x)] w fun e w' => e = .returned (.bool (goodBu x)) ∧ Chg [] w w' := by
  by_cases h0 : x.bu = 0
  · have e1 : goodBu x = (x.by_ == 0 && x.wa == 0#8) := by simp [goodBu, h0]
    have t0 : (x.bu == 0) = true := by simp [h0]
    rw [e1]
    clear e1 h0
    cases t1 : (x.by_ == 0)
    all_goals
      go_enter Tryd.func41, Tryd.ntmps41
      try dsimp only [List.append]
      go_wp2_with fail
      go_ret
      exact ⟨by simp, by (repeat' (first | with_reducible exact Chg.refl _ _ | with_reducible assumption | with_reducible refine Chg.drew ?_ | with_reducible refine Chg.drewN ?_ _ | with_reducible refine Chg.alloc ?_ _ | with_reducible refine Chg.putRow ?_ _ _ _ (.inr ?_) | with_reducible refine Chg.setCell ?_ _ _ _ (.inr ?_)  | (show _ ≤ _; first | exact Nat.le_refl _ | omega | (simp; done))))⟩
  have t0 : (x.bu == 0) = false := by simp [h0]
  by_cases h1 : x.bu = 1 ∨ x.bu = 2
  · have e1 : goodBu x = (goodWa x && x.wa != 0#8) := by simp [goodBu, h0, h1]
    rw [e1]
    clear e1 h0
    have h2 : (x.bu == 1) = true ∨ ((x.bu == 1) = false ∧ (x.bu == 2) = true) := by
      rcases h1 with h | h <;> simp [h]
    clear h1
    have rE : (w.alloc (.cells (ec (x)) 26 (0, 0))).heap[w.heap.size]? = some (.cells (ec (x)) 26 (0, 0)) := by simp
    have C1 := (Chg.refl [] w).alloc (.cells (ec (x)) 26 (0, 0))
    rcases h2 with t1 | ⟨t1, t2⟩
    all_goals
      cases t3 : goodWa x
      all_goals
        go_enter Tryd.func41, Tryd.ntmps41
        try dsimp only [List.append]
        go_wp2_with fail
        generalize w.alloc (.cells (ec (x)) 26 (0, 0)) = w1 at rE C1 ⊢
        refine (dgoodWait_at x _ t3 _).mono ?_
        rintro e w3 ⟨rfl, c3⟩
        have rE3 := c3.keep rE (by simp)
        clear rE
        go_wp2_with fail
        go_ret
        exact ⟨by simp, C1.trans c3⟩
  have t1 : (x.bu == 1) = false := by simp; omega
  have t2 : (x.bu == 2) = false := by simp; omega
  by_cases h2 : x.bu = 4 ∨ x.bu = 5
  · have e1 : goodBu x = goodWa x := by simp [goodBu, h0, h1, h2]
    rw [e1]
    clear e1 h0 h1
    have h3 : (x.bu == 4) = true ∨ ((x.bu == 4) = false ∧ (x.bu == 5) = true) := by
      rcases h2 with h | h <;> simp [h]
    clear h2
    rcases h3 with t3 | ⟨t3, t4⟩
    all_goals
      go_enter Tryd.func41, Tryd.ntmps41
      try dsimp only [List.append]
      go_wp2_with (go_at_call 58; refine (dgoodWait_any x _).mono ?_; rintro e w3 ⟨rfl, c3⟩)
      go_ret
      exact ⟨rfl, ((Chg.refl [] w).alloc _).trans c3⟩
  · have e1 : goodBu x = false := by simp [goodBu, h0, h1, h2]
    have t3 : (x.bu == 4) = false := by simp; omega
    have t4 : (x.bu == 5) = false := by simp; omega
    rw [e1]
    clear e1 h0 h1 h2
    go_enter Tryd.func41, Tryd.ntmps41
    try dsimp only [List.append]
    go_wp2_with fail
    go_ret
    exact ⟨rfl, by (repeat' (first | with_reducible exact Chg.refl _ _ | with_reducible assumption | with_reducible refine Chg.drew ?_ | with_reducible refine Chg.drewN ?_ _ | with_reducible refine Chg.alloc ?_ _ | with_reducible refine Chg.putRow ?_ _ _ _ (.inr ?_) | with_reducible refine Chg.setCell ?_ _ _ _ (.inr ?_)  | (show _ ≤ _; first | exact Nat.le_refl _ | omega | (simp; done))))⟩
theorem dgoodOwner_at (x : En) (b : Bool) (h : goodOw x = b) (w : World) : Calls Tryd.prog 40 #[.agg (ec x)] w fun e w' => e = .returned (.bool b) ∧ Chg [] w w' := h ▸ dgoodOwner_any x w
attribute [local go_sem ↓] en_eq
theorem dgood_any (x : En) (w : World) : Calls Tryd.prog 12 #[.agg (ec x)] w fun e w' => e = .returned (.bool (goodE x)) ∧ Chg [] w w' := by
  cases h : x.he
  · have e1 : goodE x = decide (x = enE) := by simp [goodE, h]
    rw [e1]
    clear e1
    go_enter Tryd.func12, Tryd.ntmps12
    try dsimp only [List.append]
    go_wp2_with fail
    refine gen_world1 (w := w) (b1 := w.heap.size) (x1 := .cells (ec (x)) 26 (0, 0)) (by (repeat' (first | with_reducible exact Chg.refl _ _ | with_reducible assumption | with_reducible refine Chg.drew ?_ | with_reducible refine Chg.drewN ?_ _ | with_reducible refine Chg.alloc ?_ _ | with_reducible refine Chg.putRow ?_ _ _ _ (.inr ?_) | with_reducible refine Chg.setCell ?_ _ _ _ (.inr ?_)  | (show _ ≤ _; first | exact Nat.le_refl _ | omega | (simp; done))))) (by simp [*]) fun w1 C1 rE => ?_
    have oE := old rE
    have hx : ∀ y : Aft w1.heap.size w1, y.w.heap[w.heap.size]? = some (.cells (ec (x)) 26 (0, 0)) := fun y => (y.block oE.lt).trans rE
    refine wp_region_aft w1.heap.size (by kernel_rfl) (by kernel_rfl) ?_
    repeat (go_big_quiet_step (first
      | (go_at_call 18; exact calls_aftC (Nat.le_refl _) (dempty_any _))))
    refine wpQuiet_nil ?_
    rintro _ ⟨y, rfl⟩
    go_wp2_with fail
    go_ret
    exact ⟨rfl, C1.trans (Below.chg y.below (Nat.le_refl _))⟩
  · have e1 : goodE x = (goodOw x && goodBu x) := by simp [goodE, h]
    rw [e1]
    clear e1
    have rE : (w.alloc (.cells (ec (x)) 26 (0, 0))).heap[w.heap.size]? = some (.cells (ec (x)) 26 (0, 0)) := by simp
    have C1 := (Chg.refl [] w).alloc (.cells (ec (x)) 26 (0, 0))
    cases t1 : goodOw x
    all_goals
      go_enter Tryd.func12, Tryd.ntmps12
      try dsimp only [List.append]
      go_wp2_with fail
      generalize w.alloc (.cells (ec (x)) 26 (0, 0)) = w1 at rE C1 ⊢
      refine (dgoodOwner_at x _ t1 _).mono ?_
      rintro e w3 ⟨rfl, c3⟩
      have rE3 := c3.keep rE (by simp)
      have C3 := C1.trans c3
      clear rE C1 c3
      go_wp2_with (go_at_call 41; refine (dgoodBusy_any x _).mono ?_; rintro e w4 ⟨rfl, c4⟩)
      go_ret
      first
        | exact ⟨by simp, C3.trans c4⟩
        | exact ⟨by simp, C3⟩
theorem dgood_at (x : En) (b : Bool) (h : goodE x = b) (w : World) : Calls Tryd.prog 12 #[.agg (ec x)] w fun e w' => e = .returned (.bool b) ∧ Chg [] w w' := h ▸ dgood_any x w
theorem dready_any (x : En) (w : World) : Calls Tryd.prog 14 #[.agg (ec x)] w fun e w' => e = .returned (.bool (readyE x)) ∧ Chg [] w w' := by
  unfold readyE
  have rE : (w.alloc (.cells (ec (x)) 26 (0, 0))).heap[w.heap.size]? = some (.cells (ec (x)) 26 (0, 0)) := by simp
  have C1 := (Chg.refl [] w).alloc (.cells (ec (x)) 26 (0, 0))
  cases t1 : goodE x
  · skip
    go_enter Tryd.func14, Tryd.ntmps14
    try dsimp only [List.append]
    go_wp2_with fail
    generalize w.alloc (.cells (ec (x)) 26 (0, 0)) = w1 at rE C1 ⊢
    refine (dgood_at x _ t1 _).mono ?_
    rintro e w3 ⟨rfl, c3⟩
    go_wp2_with fail
    go_ret
    exact ⟨by simp, C1.trans c3⟩
  · cases t2 : (x.bu == 4) <;> cases t3 : (x.bu == 5)
    all_goals
      go_enter Tryd.func14, Tryd.ntmps14
      try dsimp only [List.append]
      go_wp2_with fail
      generalize w.alloc (.cells (ec (x)) 26 (0, 0)) = w1 at rE C1 ⊢
      refine (dgood_at x _ t1 _).mono ?_
      rintro e w3 ⟨rfl, c3⟩
      have rE3 := c3.keep rE (by simp)
      clear rE
      go_wp2_with fail
      go_ret
      exact ⟨by simp, C1.trans c3⟩
end Go.Proofs.YtkaabiiedfkaaaaDoor
