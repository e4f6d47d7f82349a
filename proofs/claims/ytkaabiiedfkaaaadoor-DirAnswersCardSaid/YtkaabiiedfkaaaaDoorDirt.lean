/- The document's Answer and Pushed: walked. No condition. -/
import Derived.Test.YtkaabiiedfkaaaaDoorDirs
import Derived.Test.YtkaabiiedfkaaaaDoorMsgr
import Derived.BigQuiet
import Derived.Deep.RegionWith
import Derived.Deep.RegionHeld3
import Derived.Deep.QuietTactic
import Derived.Deep.Cut
import Derived.Deep.CutBlock
import Derived.Deep.CutRange
import Derived.Deep.DeepCutAuto
namespace Go.Proofs.YtkaabiiedfkaaaaDoor
open Go.RowKit
set_option linter.unusedVariables false
set_option maxHeartbeats 1000000
attribute [local go_sem ↓] append_appS copy_copS clear_clrS make_mkS slice_slS cell_row frozen_row loadLine storeLine loadMsg storeMsg heap_drew heap_drewN heap_alloc heap_past heap_setCell heap_putRow vs_get msc_kd msc_li msc_di msc_ke
attribute [local go_sem] rowCell_some rowFrozen_some rowHas_some rowIn_some rowPart_full rowPart_lit rowPut_full rowPut_lit rowSet_some size_putRow vs_size vs_one wideLine wideMsg run_loadS run_storeS run_appS run_copS run_clrS run_mkS run_slS loadW_at storeW_at fit_all fit_le one_int one_bool one_pointer one_slice allOne_list putRow_new ne_size1 ne_size2 ne_size3 ne_size4 zero8_length line_eq lit8 msc_size msc_one msc_part msc_in fold_msc
attribute [local simp ↓] heap_drew heap_drewN heap_alloc heap_past heap_setCell heap_putRow
attribute [local simp] rowCell_some rowFrozen_some rowHas_some rowIn_some rowPart_full rowPart_lit rowPut_full rowPut_lit rowSet_some size_putRow vs_size fit_all putRow_new ne_size1 ne_size2 ne_size3 ne_size4 zero8_length msc_size
attribute [local go_sem ↓] ec_he ec_di ec_ow ec_sh ec_bu ec_by ec_wa sc_to
attribute [local go_sem] mi_and mi_or mi_not mi_beq0 mi_bne0 ec_size ec_one ec_part ec_in ec_has ec_setDi ec_setOw ec_setSh ec_setBu ec_setBy ec_setWa ec_setSh0 ec_setWa0 ec_putM sc_size sc_one sc_part sc_in
attribute [local simp] ec_size sc_size ec_setDi ec_setOw ec_setSh ec_setBu ec_setBy ec_setWa ec_setSh0 ec_setWa0 ec_putM
attribute [local go_sem ↓] loadEn storeEn loadSd storeSd en_z0
attribute [local go_sem] wideEn wideSd fold_sc size11 putRow_newB putRow_newC ms5_lit
attribute [local simp] en_z0 putRow_newB putRow_newC fit_le ec_has
attribute [local go_sem ↓] loadEnR storeEnR loadSdR storeSdR
attribute [local go_sem] wideEnR wideSdR


/-- An entry, what is told, and a number. -/
def En3r (w : World) (r : (En × List Sd) × Int) : Ending → World → Prop := fun e w' => ∃ A c, e = .returned (.tuple #[.agg (ec r.1.1), .slice A r.1.2.length c, .int .i64 r.2]) ∧ Sl w' 13 A r.1.2.length (cat Sd.enc r.1.2) ∧ (∀ a, A = some a → w.heap.size ≤ a.block) ∧ Chg [] w w'
theorem En3r.err (w w' : World) (n : Int) (h : Chg [] w w') : En3r w ((enZ, []), n) (.returned (.tuple #[.agg (ec enZ), .slice none 0 0, .int .i64 n])) w' := ⟨none, 0, rfl, ⟨rfl, .inl rfl⟩, by simp, h⟩
theorem rmgood_at (m : Ms) (b : Bool) (h : mg m = b) (w : World) : Calls Tryd.prog 33 #[.agg (msc m)] w fun e w' => e = .returned (.bool b) ∧ Chg [] w w' := h ▸ rgood_any m w
theorem rasks_at (k : Int) (b : Bool) (h : asksB k = b) (w : World) : Calls Tryd.prog 34 #[.int .i64 k] w fun e w' => e = .returned (.bool b) ∧ w = w' := h ▸ rasks_any k w
theorem ranswers_at (k : Int) (b : Bool) (h : answersB k = b) (w : World) : Calls Tryd.prog 46 #[.int .i64 k] w fun e w' => e = .returned (.bool b) ∧ w = w' := h ▸ ranswers_any k w
theorem good_idle {x : En} (h : goodE x = true) (h0 : x.bu = 0) : x.wa = 0#8 := by
  unfold goodE at h
  split at h
  · rw [Bool.and_eq_true] at h
    have h2 := h.2
    rw [goodBu, if_pos h0] at h2
    simp at h2
    exact h2.2
  · have h2 := of_decide_eq_true h
    subst h2
    rfl
theorem ready_by {x : En} (h : readyE x = true) : isC x.by_ = true := by
  unfold readyE at h
  rw [Bool.and_eq_true, Bool.and_eq_true] at h
  obtain ⟨⟨h1, h2⟩, h3⟩ := h
  have hb : x.bu = 4 ∨ x.bu = 5 := by simpa using h2
  unfold goodE at h1
  split at h1
  · rw [Bool.and_eq_true] at h1
    have h4 := h1.2
    rw [goodBu, if_neg (by omega), if_neg (by omega), if_pos hb, goodWa, Bool.and_eq_true] at h4
    exact h4.1
  · have h5 := of_decide_eq_true h1
    subst h5
    simp [enE] at hb
theorem tell1 {c : Int} (h : isC c = true) (m : Ms) (x : En) : (x, [(⟨c, m⟩ : Sd)]) = (x, tellL (bitM c) m) := by rw [tell_one h]
theorem En3r.one {w w1 : World} {r : En} {x : Sd} {n : Int} {b : Nat} {cs : Array Value} (hc : Chg [] w w1) (ho : Old w1 b) (hb : w.heap.size ≤ b) :
    En3r w ((r, [x]), n) (.returned (.tuple #[.agg (ec r), .slice (some ⟨w1.heap.size, 0, none⟩) 1 1, .int .i64 n])) (putRow (w1.alloc (.cells (sc x) 68)) b 0 cs) := by
  have h1 := ho.lt
  have h2 := hc.size
  refine ⟨_, 1, rfl, ?_, ?_, ?_⟩
  · exact (sr_slice w1 x).chg ((Chg.refl [b] _).putRow _ _ _ (.inl (by simp))) (by intro a ha; cases ha; simp; omega)
  · rintro a ha; cases ha; exact h2
  · exact (hc.alloc _).putRow _ _ _ (.inr hb)
theorem sr_slice2 (w : World) (s : Sd) (n : Nat) (h : n = w.heap.size) : Sl (w.alloc (.cells (sc s) 68)) 13 (some ⟨n, 0, none⟩) 1 (cat Sd.enc [s]) := h ▸ sr_slice w s

set_option maxHeartbeats 4000000 in
theorem rpushed_any (x : En) (w : World) : Calls Tryd.prog 24 #[.agg (ec x)] w (En3r w (pushedE x)) := by
  cases g1 : readyE x
  · rw [show pushedE x = ((enZ, []), 16) from by simp [pushedE, g1]]
    go_enter Tryd.func24, Tryd.ntmps24
    try dsimp only [List.append]
    go_wp2_with fail
    refine gen_calls2 (w := w) (b1 := w.heap.size) (x1 := .cells (ec (x)) 33 (0, 0)) (b2 := w.heap.size + 1) (x2 := .cells (ec (enZ)) 33 (0, 0)) (by (repeat' (first | with_reducible exact Chg.refl _ _ | with_reducible assumption | with_reducible refine Chg.drew ?_ | with_reducible refine Chg.drewN ?_ _ | with_reducible refine Chg.alloc ?_ _ | with_reducible refine Chg.putRow ?_ _ _ _ (.inr ?_) | with_reducible refine Chg.setCell ?_ _ _ _ (.inr ?_)  | (show _ ≤ _; first | exact Nat.le_refl _ | omega | (simp; done))))) (by simp [*]) (by simp [*]) fun w1 C1 rE rR => ?_
    have oE := old rE
    have oR := old rR
    refine (rready_at x _ g1 w1).mono ?_
    rintro e w3 ⟨rfl, c3⟩
    have rR3 := c3.keep rR (by simp)
    go_wp2_with fail
    refine bodyPost_ret (v := .tuple #[.agg (ec enZ), .slice none 0 0, .int .i64 16]) ?_ (by rfl) ?_
    · exact results_er3 (by rfl) _ _ (w.heap.size + 1) enZ (0, 0) (by rfl) (by simp [rR3]; try rfl) _ _ (by rfl) (by rfl)
    exact En3r.err _ _ _ (by (repeat' (first | with_reducible exact Chg.refl _ _ | with_reducible assumption | with_reducible refine Chg.drew ?_ | with_reducible refine Chg.drewN ?_ _ | with_reducible refine Chg.alloc ?_ _ | with_reducible refine Chg.putRow ?_ _ _ _ (.inr ?_) | with_reducible refine Chg.setCell ?_ _ _ _ (.inr ?_)  | with_reducible refine Chg.trans ?_ c3 | with_reducible refine Chg.trans (b := World.drew _) ?_ c3 | (show _ ≤ _; first | exact Nat.le_refl _ | omega | (simp; done)))))
  · rw [show pushedE x = (((overE x).setDi false, tellL (bitM x.by_) (ms4 14 0 false false)), 0) from by simp [pushedE, g1]]
    have hc : isC x.by_ = true := ready_by g1
    rw [← tell1 hc]
    go_enter Tryd.func24, Tryd.ntmps24
    try dsimp only [List.append]
    go_wp2_with fail
    refine gen_calls2 (w := w) (b1 := w.heap.size) (x1 := .cells (ec (x)) 33 (0, 0)) (b2 := w.heap.size + 1) (x2 := .cells (ec (enZ)) 33 (0, 0)) (by (repeat' (first | with_reducible exact Chg.refl _ _ | with_reducible assumption | with_reducible refine Chg.drew ?_ | with_reducible refine Chg.drewN ?_ _ | with_reducible refine Chg.alloc ?_ _ | with_reducible refine Chg.putRow ?_ _ _ _ (.inr ?_) | with_reducible refine Chg.setCell ?_ _ _ _ (.inr ?_)  | (show _ ≤ _; first | exact Nat.le_refl _ | omega | (simp; done))))) (by simp [*]) (by simp [*]) fun w1 C1 rE rR => ?_
    have oE := old rE
    have oR := old rR
    refine (rready_at x _ g1 w1).mono ?_
    rintro e w3 ⟨rfl, c3⟩
    have rE3 := c3.keep rE (by simp)
    have rR3 := c3.keep rR (by simp)
    have C3 := C1.trans c3
    clear rE rR oE oR C1 c3 g1
    have oE3 := old rE3
    have oR3 := old rR3
    go_wp2_with fail
    refine gen_calls2 (w := w) (b1 := w.heap.size) (x1 := .cells (ec (x.setDi false)) 33 (0, 0)) (b2 := w.heap.size + 1) (x2 := .cells (ec (enZ)) 33 (0, 0)) (by (repeat' (first | with_reducible exact Chg.refl _ _ | with_reducible assumption | with_reducible refine Chg.drew ?_ | with_reducible refine Chg.drewN ?_ _ | with_reducible refine Chg.alloc ?_ _ | with_reducible refine Chg.putRow ?_ _ _ _ (.inr ?_) | with_reducible refine Chg.setCell ?_ _ _ _ (.inr ?_)  | (show _ ≤ _; first | exact Nat.le_refl _ | omega | (simp; done))))) (by simp [*]) (by simp [*]) fun w4 C4 rE rR => ?_
    have oE := old rE
    have oR := old rR
    refine (rbusy0_any _ _).mono ?_
    rintro e w5 ⟨rfl, c2⟩
    have rR2 := c2.keep rR (by simp)
    have C5 := C4.trans c2
    clear rR oR rE oE c2
    have oR2 := old rR2
    go_wp2_with fail
    refine (rtell0_any _ _ _ _).mono ?_
    rintro e w6 ⟨rfl, c3⟩
    have rR3 := c3.keep rR2 (by simp)
    have C6 := C5.trans c3
    clear rR2 oR2 c3
    have oR3 := old rR3
    have hz := C6.size
    go_wp2_with fail
    refine bodyPost_ret (v := .tuple #[.agg (ec ((overE x).setDi false)), .slice (some ⟨w6.heap.size, 0, none⟩) 1 1, .int .i64 0]) ?_ (by rfl) ?_
    · exact results_er3 (by rfl) _ _ (w.heap.size + 1) _ (0, 0) (by rfl) (by simp [rR3]; try rfl) _ _ (by rfl) (by rfl)
    exact En3r.one C6 oR3 (by omega)

/-- The entry behind an answer, in the document's order. -/
def dA1 (x : En) (c : Int) : En := x.setWa (x.wa &&& ~~~(bitM c))
def dA2 (x : En) (c : Int) (m : Ms) : En := writtenE (dA1 x c) m
def dA3 (x : En) (c : Int) (m : Ms) : En := if (dA2 x c m).ow = c then (dA2 x c m).setOw (-1) else dA2 x c m
def dA4 (x : En) (c : Int) (m : Ms) : En := (dA3 x c m).setSh ((dA3 x c m).sh &&& ~~~(bitM c))
def dA5 (x : En) (c : Int) (m : Ms) : En := if m.ke = true then (dA4 x c m).setSh ((dA4 x c m).sh ||| bitM c) else dA4 x c m
theorem dA5_eq (x : En) (c : Int) (m : Ms) : dA5 x c m = answeredE x c m := by
  unfold dA5 dA4 dA3 dA2 dA1 answeredE withoutE writtenE
  cases hd : m.di <;> cases hk : m.ke <;> by_cases h : x.ow = c <;> simp [En.setWa, En.setSh, En.setOw, En.setDi, En.setL, h]
theorem dA5_by (x : En) (c : Int) (m : Ms) : (dA5 x c m).by_ = x.by_ := by
  unfold dA5 dA4 dA3 dA2 dA1 writtenE
  cases hd : m.di <;> cases hk : m.ke <;> by_cases h : x.ow = c <;> simp [En.setWa, En.setSh, En.setOw, En.setDi, En.setL, h]
theorem busy_by {x : En} (h1 : goodE x = true) (h : ¬ x.bu = 0) : isC x.by_ = true := by
  unfold goodE at h1
  split at h1
  · rw [Bool.and_eq_true] at h1
    have h4 := h1.2
    rw [goodBu, if_neg h] at h4
    split at h4
    · rw [goodWa, Bool.and_eq_true, Bool.and_eq_true] at h4
      exact h4.1.1
    · split at h4
      · rw [goodWa, Bool.and_eq_true] at h4
        exact h4.1
      · cases h4
  · have h5 := of_decide_eq_true h1
    subst h5
    exact absurd rfl h
theorem put_row {w : World} {r : Nat} {c cs : Array Value} {t : TypeId} (h : w.heap[r]? = some (.cells c t (0, 0))) (hs : cs.size = c.size) : (putRow w r 0 cs).heap[r]? = some (.cells cs t (0, 0)) := by
  simp [h, hs]
theorem sds_new {w w1 X W : World} {r : Nat} {x : Sd} (hc : Chg [] w w1) (hX : Chg [r] w1 X) (ho : Old w1 r) (hW : Chg [r] (X.alloc (.cells (sc x) 68)) W) : Sl W 13 (some ⟨X.heap.size, 0, none⟩) 1 (cat Sd.enc [x]) ∧ w.heap.size ≤ X.heap.size := by
  have h1 := ho.lt
  have h2 := hX.size
  have h3 := hc.size
  exact ⟨(sr_slice X x).chg hW (by intro a ha; cases ha; simp; omega), by omega⟩
section
variable {w w1 X W w2 : World} {r : Nat} {x : Sd} {y : En} {n : Int} {cs : Array Value} (hc : Chg [] w w1) (hX : Chg [r] w1 X) (ho : Old w1 r) (hr : w.heap.size ≤ r)
include hc hX ho hr
theorem En3r.of (hW : Chg [r] (X.alloc (.cells (sc x) 68)) W) (k : Nat) (hk : k = X.heap.size) : En3r w ((y, [x]), n) (.returned (.tuple #[.agg (ec y), .slice (some ⟨k, 0, none⟩) 1 1, .int .i64 n])) W := by
  subst hk
  obtain ⟨h1, h2⟩ := sds_new hc hX ho hW
  exact ⟨_, 1, rfl, h1, by rintro a ha; cases ha; exact h2, (hc.trans' hX (by simp [hr])).alloc _ |>.trans' hW (by simp [hr])⟩
theorem En3r.L1 : En3r w ((y, [x]), n) (.returned (.tuple #[.agg (ec y), .slice (some ⟨X.heap.size, 0, none⟩) 1 1, .int .i64 n])) (X.alloc (.cells (sc x) 68)) :=
  En3r.of hc hX ho hr (Chg.refl _ _) _ rfl
theorem En3r.L1p : En3r w ((y, [x]), n) (.returned (.tuple #[.agg (ec y), .slice (some ⟨X.heap.size, 0, none⟩) 1 1, .int .i64 n])) ((putRow X r 0 cs).alloc (.cells (sc x) 68)) :=
  En3r.of hc (hX.putRow r 0 cs (.inl (by simp))) ho hr (Chg.refl _ _) _ (by simp)
theorem En3r.L2 : En3r w ((y, [x]), n) (.returned (.tuple #[.agg (ec y), .slice (some ⟨X.heap.size, 0, none⟩) 1 1, .int .i64 n])) (putRow (X.alloc (.cells (sc x) 68)) r 0 cs) :=
  En3r.of hc hX ho hr ((Chg.refl _ _).putRow r 0 cs (.inl (by simp))) _ rfl
theorem En3r.L3 (h2 : Chg [] (X.alloc (.cells (sc x) 68)) w2) : En3r w ((y, [x]), n) (.returned (.tuple #[.agg (ec y), .slice (some ⟨X.heap.size, 0, none⟩) 1 1, .int .i64 n])) (putRow w2 r 0 cs) :=
  En3r.of hc hX ho hr ((h2.mono (by simp)).putRow r 0 cs (.inl (by simp))) _ rfl
end
theorem eqb {a b : Int} (h : (a == b) = true) : a = b := by simpa using h
theorem neb {a b : Int} (h : (a == b) = false) : ¬ a = b := by simpa using h
def ansF (y : En) (li : Int) : (En × List Sd) × Int := if y.wa ≠ 0#8 then ((y, []), 0) else (settledE y li, 0)
set_option maxHeartbeats 4000000 in
set_option maxRecDepth 100000 in
theorem ranswer_any (x : En) (c : Int) (m : Ms) (w : World) : Calls Tryd.prog 22 #[.agg (ec x), .int .i64 c, .agg (msc m)] w (En3r w (ansE x c m)) := by
  cases g1 : goodE x
  · skip
    rw [show ansE x c m = ((enZ, []), 1) from by simp [ansE, ansArg, g1]]
    go_enter Tryd.func22, Tryd.ntmps22
    try dsimp only [List.append]
    go_wp2_with fail
    refine gen_calls3 (w := w) (b1 := w.heap.size) (x1 := .cells (ec (x)) 33 (0, 0)) (b2 := w.heap.size + 1) (x2 := .cells (msc m) 28 (0, 0)) (b3 := w.heap.size + 2) (x3 := .cells (ec (enZ)) 33 (0, 0)) (by (repeat' (first | with_reducible exact Chg.refl _ _ | with_reducible assumption | with_reducible refine Chg.drew ?_ | with_reducible refine Chg.drewN ?_ _ | with_reducible refine Chg.alloc ?_ _ | with_reducible refine Chg.putRow ?_ _ _ _ (.inr ?_) | with_reducible refine Chg.setCell ?_ _ _ _ (.inr ?_)  | (show _ ≤ _; first | exact Nat.le_refl _ | omega | (simp; done))))) (by simp [*]) (by simp [*]) (by simp [*]) fun w1 C1 rE rM rR => ?_
    have oE := old rE
    have oM := old rM
    have oR := old rR
    refine (rgood_at x _ g1 w1).mono ?_
    rintro e w3 ⟨rfl, c3⟩
    have rE3 := c3.keep rE (by simp)
    have rM3 := c3.keep rM (by simp)
    have rR3 := c3.keep rR (by simp)
    have C3 := C1.trans c3
    clear rE rM rR oE oM oR C1 c3
    have oE3 := old rE3
    have oM3 := old rM3
    have oR3 := old rR3
    go_wp2_with fail
    refine bodyPost_ret (v := .tuple #[.agg (ec enZ), .slice none 0 0, .int .i64 1]) ?_ (by rfl) ?_
    · exact results_er3 (by rfl) _ _ (w.heap.size + 2) enZ (0, 0) (by rfl) (by simp [rR3]; try rfl) _ _ (by rfl) (by rfl)
    exact En3r.err _ _ _ (by (repeat' (first | with_reducible exact Chg.refl _ _ | with_reducible assumption | with_reducible refine Chg.drew ?_ | with_reducible refine Chg.drewN ?_ _ | with_reducible refine Chg.alloc ?_ _ | with_reducible refine Chg.putRow ?_ _ _ _ (.inr ?_) | with_reducible refine Chg.setCell ?_ _ _ _ (.inr ?_)  | (show _ ≤ _; first | exact Nat.le_refl _ | omega | (simp; done)))))
  cases g2 : isC c
  · skip
    rw [show ansE x c m = ((enZ, []), 1) from by simp [ansE, ansArg, g2]]
    go_enter Tryd.func22, Tryd.ntmps22
    try dsimp only [List.append]
    go_wp2_with fail
    refine gen_calls3 (w := w) (b1 := w.heap.size) (x1 := .cells (ec (x)) 33 (0, 0)) (b2 := w.heap.size + 1) (x2 := .cells (msc m) 28 (0, 0)) (b3 := w.heap.size + 2) (x3 := .cells (ec (enZ)) 33 (0, 0)) (by (repeat' (first | with_reducible exact Chg.refl _ _ | with_reducible assumption | with_reducible refine Chg.drew ?_ | with_reducible refine Chg.drewN ?_ _ | with_reducible refine Chg.alloc ?_ _ | with_reducible refine Chg.putRow ?_ _ _ _ (.inr ?_) | with_reducible refine Chg.setCell ?_ _ _ _ (.inr ?_)  | (show _ ≤ _; first | exact Nat.le_refl _ | omega | (simp; done))))) (by simp [*]) (by simp [*]) (by simp [*]) fun w1 C1 rE rM rR => ?_
    have oE := old rE
    have oM := old rM
    have oR := old rR
    refine (rgood_at x _ g1 w1).mono ?_
    rintro e w3 ⟨rfl, c3⟩
    have rE3 := c3.keep rE (by simp)
    have rM3 := c3.keep rM (by simp)
    have rR3 := c3.keep rR (by simp)
    have C3 := C1.trans c3
    clear rE rM rR oE oM oR C1 c3
    have oE3 := old rE3
    have oM3 := old rM3
    have oR3 := old rR3
    go_wp2_with (go_at_call 32; refine (rcore_at _ _ g2 _).mono ?_; rintro e w' ⟨rfl, rfl⟩)
    refine bodyPost_ret (v := .tuple #[.agg (ec enZ), .slice none 0 0, .int .i64 1]) ?_ (by rfl) ?_
    · exact results_er3 (by rfl) _ _ (w.heap.size + 2) enZ (0, 0) (by rfl) (by simp [rR3]; try rfl) _ _ (by rfl) (by rfl)
    exact En3r.err _ _ _ (by (repeat' (first | with_reducible exact Chg.refl _ _ | with_reducible assumption | with_reducible refine Chg.drew ?_ | with_reducible refine Chg.drewN ?_ _ | with_reducible refine Chg.alloc ?_ _ | with_reducible refine Chg.putRow ?_ _ _ _ (.inr ?_) | with_reducible refine Chg.setCell ?_ _ _ _ (.inr ?_)  | (show _ ≤ _; first | exact Nat.le_refl _ | omega | (simp; done)))))
  cases g3 : mg m
  · skip
    rw [show ansE x c m = ((enZ, []), 1) from by simp [ansE, ansArg, g3]]
    go_enter Tryd.func22, Tryd.ntmps22
    try dsimp only [List.append]
    go_wp2_with fail
    refine gen_calls3 (w := w) (b1 := w.heap.size) (x1 := .cells (ec (x)) 33 (0, 0)) (b2 := w.heap.size + 1) (x2 := .cells (msc m) 28 (0, 0)) (b3 := w.heap.size + 2) (x3 := .cells (ec (enZ)) 33 (0, 0)) (by (repeat' (first | with_reducible exact Chg.refl _ _ | with_reducible assumption | with_reducible refine Chg.drew ?_ | with_reducible refine Chg.drewN ?_ _ | with_reducible refine Chg.alloc ?_ _ | with_reducible refine Chg.putRow ?_ _ _ _ (.inr ?_) | with_reducible refine Chg.setCell ?_ _ _ _ (.inr ?_)  | (show _ ≤ _; first | exact Nat.le_refl _ | omega | (simp; done))))) (by simp [*]) (by simp [*]) (by simp [*]) fun w1 C1 rE rM rR => ?_
    have oE := old rE
    have oM := old rM
    have oR := old rR
    refine (rgood_at x _ g1 w1).mono ?_
    rintro e w3 ⟨rfl, c3⟩
    have rE3 := c3.keep rE (by simp)
    have rM3 := c3.keep rM (by simp)
    have rR3 := c3.keep rR (by simp)
    have C3 := C1.trans c3
    clear rE rM rR oE oM oR C1 c3
    have oE3 := old rE3
    have oM3 := old rM3
    have oR3 := old rR3
    go_wp2_with ((go_at_call 32; refine (rcore_at _ _ g2 _).mono ?_; rintro e w' ⟨rfl, rfl⟩))
    refine (rmgood_at m _ g3 w3).mono ?_
    rintro e w4 ⟨rfl, c4⟩
    have rE4 := c4.keep rE3 (by simp)
    have rM4 := c4.keep rM3 (by simp)
    have rR4 := c4.keep rR3 (by simp)
    have C4 := C3.trans c4
    clear rE3 rM3 rR3 oE3 oM3 oR3 C3 c4
    have oE4 := old rE4
    have oM4 := old rM4
    have oR4 := old rR4
    go_wp2_with fail
    refine bodyPost_ret (v := .tuple #[.agg (ec enZ), .slice none 0 0, .int .i64 1]) ?_ (by rfl) ?_
    · exact results_er3 (by rfl) _ _ (w.heap.size + 2) enZ (0, 0) (by rfl) (by simp [rR4]; try rfl) _ _ (by rfl) (by rfl)
    exact En3r.err _ _ _ (by (repeat' (first | with_reducible exact Chg.refl _ _ | with_reducible assumption | with_reducible refine Chg.drew ?_ | with_reducible refine Chg.drewN ?_ _ | with_reducible refine Chg.alloc ?_ _ | with_reducible refine Chg.putRow ?_ _ _ _ (.inr ?_) | with_reducible refine Chg.setCell ?_ _ _ _ (.inr ?_)  | (show _ ≤ _; first | exact Nat.le_refl _ | omega | (simp; done)))))
  cases g4 : answersB m.kd
  · skip
    rw [show ansE x c m = ((enZ, []), 1) from by simp [ansE, ansArg, g4]]
    go_enter Tryd.func22, Tryd.ntmps22
    try dsimp only [List.append]
    go_wp2_with fail
    refine gen_calls3 (w := w) (b1 := w.heap.size) (x1 := .cells (ec (x)) 33 (0, 0)) (b2 := w.heap.size + 1) (x2 := .cells (msc m) 28 (0, 0)) (b3 := w.heap.size + 2) (x3 := .cells (ec (enZ)) 33 (0, 0)) (by (repeat' (first | with_reducible exact Chg.refl _ _ | with_reducible assumption | with_reducible refine Chg.drew ?_ | with_reducible refine Chg.drewN ?_ _ | with_reducible refine Chg.alloc ?_ _ | with_reducible refine Chg.putRow ?_ _ _ _ (.inr ?_) | with_reducible refine Chg.setCell ?_ _ _ _ (.inr ?_)  | (show _ ≤ _; first | exact Nat.le_refl _ | omega | (simp; done))))) (by simp [*]) (by simp [*]) (by simp [*]) fun w1 C1 rE rM rR => ?_
    have oE := old rE
    have oM := old rM
    have oR := old rR
    refine (rgood_at x _ g1 w1).mono ?_
    rintro e w3 ⟨rfl, c3⟩
    have rE3 := c3.keep rE (by simp)
    have rM3 := c3.keep rM (by simp)
    have rR3 := c3.keep rR (by simp)
    have C3 := C1.trans c3
    clear rE rM rR oE oM oR C1 c3
    have oE3 := old rE3
    have oM3 := old rM3
    have oR3 := old rR3
    go_wp2_with ((go_at_call 32; refine (rcore_at _ _ g2 _).mono ?_; rintro e w' ⟨rfl, rfl⟩))
    refine (rmgood_at m _ g3 w3).mono ?_
    rintro e w4 ⟨rfl, c4⟩
    have rE4 := c4.keep rE3 (by simp)
    have rM4 := c4.keep rM3 (by simp)
    have rR4 := c4.keep rR3 (by simp)
    have C4 := C3.trans c4
    clear rE3 rM3 rR3 oE3 oM3 oR3 C3 c4
    have oE4 := old rE4
    have oM4 := old rM4
    have oR4 := old rR4
    go_wp2_with (go_at_call 46; refine (ranswers_at _ _ g4 _).mono ?_; rintro e w' ⟨rfl, rfl⟩)
    refine bodyPost_ret (v := .tuple #[.agg (ec enZ), .slice none 0 0, .int .i64 1]) ?_ (by rfl) ?_
    · exact results_er3 (by rfl) _ _ (w.heap.size + 2) enZ (0, 0) (by rfl) (by simp [rR4]; try rfl) _ _ (by rfl) (by rfl)
    exact En3r.err _ _ _ (by (repeat' (first | with_reducible exact Chg.refl _ _ | with_reducible assumption | with_reducible refine Chg.drew ?_ | with_reducible refine Chg.drewN ?_ _ | with_reducible refine Chg.alloc ?_ _ | with_reducible refine Chg.putRow ?_ _ _ _ (.inr ?_) | with_reducible refine Chg.setCell ?_ _ _ _ (.inr ?_)  | (show _ ≤ _; first | exact Nat.le_refl _ | omega | (simp; done)))))
  have ga : ansArg x c m = true := by simp [ansArg, g1, g2, g3, g4]
  cases hb : hasM x.wa c
  · rw [show ansE x c m = ((enZ, []), 16) from by simp [ansE, ga, hb]]
    clear ga
    have hb' : ((x.wa &&& bitM c) == 0#8) = true := by simpa [hasM, bne] using hb
    cases t1 : (x.bu == 0)
    all_goals
      go_enter Tryd.func22, Tryd.ntmps22
      try dsimp only [List.append]
      go_wp2_with fail
      refine gen_calls3 (w := w) (b1 := w.heap.size) (x1 := .cells (ec (x)) 33 (0, 0)) (b2 := w.heap.size + 1) (x2 := .cells (msc m) 28 (0, 0)) (b3 := w.heap.size + 2) (x3 := .cells (ec (enZ)) 33 (0, 0)) (by (repeat' (first | with_reducible exact Chg.refl _ _ | with_reducible assumption | with_reducible refine Chg.drew ?_ | with_reducible refine Chg.drewN ?_ _ | with_reducible refine Chg.alloc ?_ _ | with_reducible refine Chg.putRow ?_ _ _ _ (.inr ?_) | with_reducible refine Chg.setCell ?_ _ _ _ (.inr ?_)  | (show _ ≤ _; first | exact Nat.le_refl _ | omega | (simp; done))))) (by simp [*]) (by simp [*]) (by simp [*]) fun w1 C1 rE rM rR => ?_
      have oE := old rE
      have oM := old rM
      have oR := old rR
      refine (rgood_at x _ g1 w1).mono ?_
      rintro e w3 ⟨rfl, c3⟩
      have rE3 := c3.keep rE (by simp)
      have rM3 := c3.keep rM (by simp)
      have rR3 := c3.keep rR (by simp)
      have C3 := C1.trans c3
      clear rE rM rR oE oM oR C1 c3
      have oE3 := old rE3
      have oM3 := old rM3
      have oR3 := old rR3
      go_wp2_with ((go_at_call 32; refine (rcore_at _ _ g2 _).mono ?_; rintro e w' ⟨rfl, rfl⟩))
      refine (rmgood_at m _ g3 w3).mono ?_
      rintro e w4 ⟨rfl, c4⟩
      have rE4 := c4.keep rE3 (by simp)
      have rM4 := c4.keep rM3 (by simp)
      have rR4 := c4.keep rR3 (by simp)
      have C4 := C3.trans c4
      clear rE3 rM3 rR3 oE3 oM3 oR3 C3 c4
      have oE4 := old rE4
      have oM4 := old rM4
      have oR4 := old rR4
      go_wp2_with (first | (go_at_call 46; refine (ranswers_at _ _ g4 _).mono ?_; rintro e w' ⟨rfl, rfl⟩) | (go_at_call 26; refine (rbit_any _ _).mono ?_; rintro e w' ⟨rfl, rfl⟩))
      refine bodyPost_ret (v := .tuple #[.agg (ec enZ), .slice none 0 0, .int .i64 16]) ?_ (by rfl) ?_
      · exact results_er3 (by rfl) _ _ (w.heap.size + 2) enZ (0, 0) (by rfl) (by simp [rR4]; try rfl) _ _ (by rfl) (by rfl)
      exact En3r.err _ _ _ (by (repeat' (first | with_reducible exact Chg.refl _ _ | with_reducible assumption | with_reducible refine Chg.drew ?_ | with_reducible refine Chg.drewN ?_ _ | with_reducible refine Chg.alloc ?_ _ | with_reducible refine Chg.putRow ?_ _ _ _ (.inr ?_) | with_reducible refine Chg.setCell ?_ _ _ _ (.inr ?_)  | (show _ ≤ _; first | exact Nat.le_refl _ | omega | (simp; done)))))
  · have hb' : ((x.wa &&& bitM c) == 0#8) = false := by simpa [hasM, bne] using hb
    have t1 : (x.bu == 0) = false := by
      rw [beq_eq_false_iff_ne]
      intro h0
      rw [good_idle g1 h0] at hb
      simp [has_zero] at hb
    have e1 : ansE x c m = ansF (dA5 x c m) m.li := by simp [ansE, ansF, ga, hb, dA5_eq]
    rw [e1]
    clear ga e1
    have h8 := m.h
    go_enter Tryd.func22, Tryd.ntmps22
    try dsimp only [List.append]
    go_wp2_with fail
    refine gen_calls3 (w := w) (b1 := w.heap.size) (x1 := .cells (ec (x)) 33 (0, 0)) (b2 := w.heap.size + 1) (x2 := .cells (msc m) 28 (0, 0)) (b3 := w.heap.size + 2) (x3 := .cells (ec (enZ)) 33 (0, 0)) (by (repeat' (first | with_reducible exact Chg.refl _ _ | with_reducible assumption | with_reducible refine Chg.drew ?_ | with_reducible refine Chg.drewN ?_ _ | with_reducible refine Chg.alloc ?_ _ | with_reducible refine Chg.putRow ?_ _ _ _ (.inr ?_) | with_reducible refine Chg.setCell ?_ _ _ _ (.inr ?_)  | (show _ ≤ _; first | exact Nat.le_refl _ | omega | (simp; done))))) (by simp [*]) (by simp [*]) (by simp [*]) fun w1 C1 rE rM rR => ?_
    have oE := old rE
    have oM := old rM
    have oR := old rR
    refine (rgood_at x _ g1 w1).mono ?_
    rintro e w3 ⟨rfl, c3⟩
    have rE3 := c3.keep rE (by simp)
    have rM3 := c3.keep rM (by simp)
    have rR3 := c3.keep rR (by simp)
    have C3 := C1.trans c3
    clear rE rM rR oE oM oR C1 c3
    have oE3 := old rE3
    have oM3 := old rM3
    have oR3 := old rR3
    go_wp2_with ((go_at_call 32; refine (rcore_at _ _ g2 _).mono ?_; rintro e w' ⟨rfl, rfl⟩))
    refine (rmgood_at m _ g3 w3).mono ?_
    rintro e w4 ⟨rfl, c4⟩
    have rE4 := c4.keep rE3 (by simp)
    have rM4 := c4.keep rM3 (by simp)
    have rR4 := c4.keep rR3 (by simp)
    have C4 := C3.trans c4
    clear rE3 rM3 rR3 oE3 oM3 oR3 C3 c4
    have oE4 := old rE4
    have oM4 := old rM4
    have oR4 := old rR4
    go_upto_if 50 with (first | (go_at_call 46; refine (ranswers_at _ _ g4 _).mono ?_; rintro e w' ⟨rfl, rfl⟩) | (go_at_call 26; refine (rbit_any _ _).mono ?_; rintro e w' ⟨rfl, rfl⟩))
    go_cut [] (fun wx => wx.heap[w.heap.size]? = some (.cells (ec (dA2 x c m)) 33 (0, 0)) ∧ wx.heap[w.heap.size + 1]? = some (.cells (msc m) 28 (0, 0)) ∧ wx.heap[w.heap.size + 2]? = some (.cells (ec (enZ)) 33 (0, 0)) ∧ Chg [] w wx)
    case first =>
      cases hd : m.di
      all_goals
        go_wp2_with (first | (go_at_call 46; refine (ranswers_at _ _ g4 _).mono ?_; rintro e w' ⟨rfl, rfl⟩) | (go_at_call 26; refine (rbit_any _ _).mono ?_; rintro e w' ⟨rfl, rfl⟩))
        go_meet
        case rel => exact ⟨by simp (maxDischargeDepth := 8) [rE4, dA2, writtenE, dA1, hd, m.h], by simp (maxDischargeDepth := 8) [rM4, rE4, m.h], by simp (maxDischargeDepth := 8) [rR4, rE4, m.h], by (repeat' (first | with_reducible exact Chg.refl _ _ | with_reducible assumption | with_reducible refine Chg.drew ?_ | with_reducible refine Chg.drewN ?_ _ | with_reducible refine Chg.alloc ?_ _ | with_reducible refine Chg.putRow ?_ _ _ _ (.inr ?_) | with_reducible refine Chg.setCell ?_ _ _ _ (.inr ?_)  | (show _ ≤ _; first | exact Nat.le_refl _ | omega | (simp; done))))⟩
    case rest =>
    obtain ⟨rE5, rM5, rR5, C5⟩ := hcut
    clear rE4 rM4 rR4 oE4 oM4 oR4 C4
    have oE5 := old rE5
    have oM5 := old rM5
    have oR5 := old rR5
    go_upto_if 58 with (first | (go_at_call 46; refine (ranswers_at _ _ g4 _).mono ?_; rintro e w' ⟨rfl, rfl⟩) | (go_at_call 26; refine (rbit_any _ _).mono ?_; rintro e w' ⟨rfl, rfl⟩))
    go_cut [] (fun wx => wx.heap[w.heap.size]? = some (.cells (ec (dA3 x c m)) 33 (0, 0)) ∧ wx.heap[w.heap.size + 1]? = some (.cells (msc m) 28 (0, 0)) ∧ wx.heap[w.heap.size + 2]? = some (.cells (ec (enZ)) 33 (0, 0)) ∧ Chg [] w wx)
    case first =>
      cases ho : ((dA2 x c m).ow == c)
      all_goals
        go_wp2_with (first | (go_at_call 46; refine (ranswers_at _ _ g4 _).mono ?_; rintro e w' ⟨rfl, rfl⟩) | (go_at_call 26; refine (rbit_any _ _).mono ?_; rintro e w' ⟨rfl, rfl⟩))
        go_meet
        case rel => exact ⟨by first | (simp [rE5, dA3, eqb ho]; done) | (simp [rE5, dA3, neb ho]; done), by simp [rM5], by simp [rR5], by (repeat' (first | with_reducible exact Chg.refl _ _ | with_reducible assumption | with_reducible refine Chg.drew ?_ | with_reducible refine Chg.drewN ?_ _ | with_reducible refine Chg.alloc ?_ _ | with_reducible refine Chg.putRow ?_ _ _ _ (.inr ?_) | with_reducible refine Chg.setCell ?_ _ _ _ (.inr ?_)  | (show _ ≤ _; first | exact Nat.le_refl _ | omega | (simp; done))))⟩
    case rest =>
    obtain ⟨rE6, rM6, rR6, C6⟩ := hcut
    clear rE5 rM5 rR5 oE5 oM5 oR5 C5
    have oE6 := old rE6
    have oM6 := old rM6
    have oR6 := old rR6
    go_upto_if 66 with (first | (go_at_call 46; refine (ranswers_at _ _ g4 _).mono ?_; rintro e w' ⟨rfl, rfl⟩) | (go_at_call 26; refine (rbit_any _ _).mono ?_; rintro e w' ⟨rfl, rfl⟩))
    go_cut [] (fun wx => wx.heap[w.heap.size]? = some (.cells (ec (dA5 x c m)) 33 (0, 0)) ∧ wx.heap[w.heap.size + 1]? = some (.cells (msc m) 28 (0, 0)) ∧ wx.heap[w.heap.size + 2]? = some (.cells (ec (enZ)) 33 (0, 0)) ∧ Chg [] w wx)
    case first =>
      cases hk : m.ke
      all_goals
        go_wp2_with (first | (go_at_call 46; refine (ranswers_at _ _ g4 _).mono ?_; rintro e w' ⟨rfl, rfl⟩) | (go_at_call 26; refine (rbit_any _ _).mono ?_; rintro e w' ⟨rfl, rfl⟩))
        go_meet
        case rel => exact ⟨by first | (simp [rE6, dA5, dA4, hk]; done) | (simp [rE6, dA5, dA4, hk]; done), by simp [rM6], by simp [rR6], by (repeat' (first | with_reducible exact Chg.refl _ _ | with_reducible assumption | with_reducible refine Chg.drew ?_ | with_reducible refine Chg.drewN ?_ _ | with_reducible refine Chg.alloc ?_ _ | with_reducible refine Chg.putRow ?_ _ _ _ (.inr ?_) | with_reducible refine Chg.setCell ?_ _ _ _ (.inr ?_)  | (show _ ≤ _; first | exact Nat.le_refl _ | omega | (simp; done))))⟩
    case rest =>
    obtain ⟨rE7, rM7, rR7, C7⟩ := hcut
    clear rE6 rM6 rR6 oE6 oM6 oR6 C6
    have oE7 := old rE7
    have oM7 := old rM7
    have oR7 := old rR7
    have hby : isC (dA5 x c m).by_ = true := by rw [dA5_by]; exact busy_by g1 (by simpa using t1)
    clear g1 g2 g3 g4 hb hb' t1
    generalize dA5 x c m = y at *
    have hy8 := y.h
    cases hw : (y.wa != 0#8)
    · cases h1 : (y.bu == 1)
      · cases h2 : (y.bu == 2)
        · go_wp2_with fail
          rw [show ansF y m.li = ((y, []), 0) by simp [ansF, settledE, neb h1, neb h2]]
          refine bodyPost_ret (v := .tuple #[.agg (ec y), .slice none 0 0, .int .i64 0]) ?_ (by rfl) ?_
          · exact results_er3 (by rfl) _ _ (w.heap.size + 2) y (0, 0) (by rfl) (by simp [rR7]; try rfl) _ _ (by rfl) (by rfl)
          exact ⟨none, 0, rfl, ⟨rfl, .inl rfl⟩, by simp, by (repeat' (first | with_reducible exact Chg.refl _ _ | with_reducible assumption | with_reducible refine Chg.drew ?_ | with_reducible refine Chg.drewN ?_ _ | with_reducible refine Chg.alloc ?_ _ | with_reducible refine Chg.putRow ?_ _ _ _ (.inr ?_) | with_reducible refine Chg.setCell ?_ _ _ _ (.inr ?_)  | (show _ ≤ _; first | exact Nat.le_refl _ | omega | (simp; done))))⟩
        · have e1 : ansF y m.li = ((overE ((y.setOw y.by_).setSh 0#8), [⟨y.by_, ms5 10 m.li y.l y.h⟩]), 0) := by
            have hw' : y.wa = 0#8 := by simpa using hw
            simp [ansF, settledE, eqb h2, ownedE, tell_one, hby, overE, En.setOw, En.setSh, En.setBu, En.setBy, En.setWa, hw']
          go_upto_region 22 with fail
          refine gen_world3 (w := w) (b1 := w.heap.size) (x1 := .cells (ec (y)) 33 (0, 0)) (b2 := w.heap.size + 1) (x2 := .cells (msc m) 28 (0, 0)) (b3 := w.heap.size + 2) (x3 := .cells (ec (enZ)) 33 (0, 0)) (by (repeat' (first | with_reducible exact Chg.refl _ _ | with_reducible assumption | with_reducible refine Chg.drew ?_ | with_reducible refine Chg.drewN ?_ _ | with_reducible refine Chg.alloc ?_ _ | with_reducible refine Chg.putRow ?_ _ _ _ (.inr ?_) | with_reducible refine Chg.setCell ?_ _ _ _ (.inr ?_)  | (show _ ≤ _; first | exact Nat.le_refl _ | omega | (simp; done))))) (by simp [*]) (by simp [*]) (by simp [*]) fun w8 C8 rE rM rR => ?_
          have oE := old rE
          have oM := old rM
          have oR := old rR
          go_region_held3 (fun w' => w'.heap[w.heap.size]? = some (.cells (ec (y)) 33 (0, 0)) ∧ w'.heap[w.heap.size + 1]? = some (.cells (msc m) 28 (0, 0))) (exact ⟨Chg.keep (l := [w.heap.size + 2]) (w := w8) (by (repeat' (first | with_reducible exact cO | with_reducible exact cT | with_reducible exact Chg.refl _ _ | with_reducible refine Chg.alloc ?_ _ | with_reducible refine Chg.drew ?_ | with_reducible refine Chg.putRow ?_ _ _ _ (.inl (List.mem_singleton.2 rfl))))) rE (by simp), Chg.keep (l := [w.heap.size + 2]) (w := w8) (by (repeat' (first | with_reducible exact cO | with_reducible exact cT | with_reducible exact Chg.refl _ _ | with_reducible refine Chg.alloc ?_ _ | with_reducible refine Chg.drew ?_ | with_reducible refine Chg.putRow ?_ _ _ _ (.inl (List.mem_singleton.2 rfl))))) rM (by simp)⟩)
            (first
              | (go_at_call 38; refine (rowned_any _ _ _).mono ?_; rintro e w' ⟨rfl, c2⟩; (first | (have cO : Chg [w.heap.size + 2] w8 _ := Chg.trans (Chg.refl [w.heap.size + 2] w8).drew (Chg.mono c2 (fun _ h => absurd h List.not_mem_nil))) | (have cO : Chg [w.heap.size + 2] w8 _ := Chg.trans cT (Chg.mono c2 (fun _ h => absurd h List.not_mem_nil))) | (have cO : Chg [w.heap.size + 2] w8 _ := Chg.trans (cT.alloc _) (Chg.mono c2 (fun _ h => absurd h List.not_mem_nil)))); (first | (have rR2 := c2.keep rR List.not_mem_nil) | (have rR2 := c2.keep rR3 List.not_mem_nil) | (have rR2 := Chg.keep ((Chg.refl [] _).alloc _ |>.trans c2) rR3 List.not_mem_nil)))
              | (go_at_call 37; refine (rtell_any _ _ _ _ y.h _).mono ?_; rintro e w' ⟨rfl, c3⟩; (first | (have cT : Chg [w.heap.size + 2] w8 _ := Chg.trans (Chg.refl [w.heap.size + 2] w8).drew (Chg.mono c3 (fun _ h => absurd h List.not_mem_nil))) | (have cT : Chg [w.heap.size + 2] w8 _ := Chg.trans cO (Chg.mono c3 (fun _ h => absurd h List.not_mem_nil))) | (have cT : Chg [w.heap.size + 2] w8 _ := Chg.trans (Chg.putRow cO w.heap.size + 2 0 _ (.inl (List.mem_singleton.2 rfl))) (Chg.mono c3 (fun _ h => absurd h List.not_mem_nil)))); (first | (have rR3 := c3.keep rR List.not_mem_nil) | (have rR3 := c3.keep rR2 List.not_mem_nil) | (have rR3 := c3.keep (put_row rR2 rfl) List.not_mem_nil))))
          all_goals
            go_wp2_with fail
            rw [e1]
            refine bodyPost_ret (results_er3 (by rfl) _ _ (w.heap.size + 2) (overE ((y.setOw y.by_).setSh 0#8)) (0, 0) (by rfl) (by first | (simp [rR3]; done) | (simp [rR2]; done) | (simp [rR2, rR3]; done)) _ _ (by rfl) (by rfl)) (by rfl) ?_
            first
              | exact En3r.L1 C8 cT oR (by omega)
              | exact En3r.L1p C8 cT oR (by omega)
              | exact En3r.L1p C8 cO oR (by omega)
              | exact En3r.L2 C8 cT oR (by omega)
              | exact En3r.L2 C8 cO oR (by omega)
              | exact En3r.L3 C8 cT oR (by omega) c2
      · have e1 : ansF y m.li = ((overE (y.setSh (y.sh ||| bitM y.by_)), [⟨y.by_, ms5 8 m.li y.l y.h⟩]), 0) := by
          have hw' : y.wa = 0#8 := by simpa using hw
          simp [ansF, settledE, eqb h1, sharedE, tell_one, hby, overE, En.setSh, En.setBu, En.setBy, En.setWa, hw']
        go_upto_region 19 with fail
        go_cut [] (fun wx => wx.heap[w.heap.size]? = some (.cells (ec (y.setSh (y.sh ||| bitM y.by_))) 33 (0, 0)) ∧ wx.heap[w.heap.size + 1]? = some (.cells (msc m) 28 (0, 0)) ∧ wx.heap[w.heap.size + 2]? = some (.cells (ec (enZ)) 33 (0, 0)) ∧ Chg [] w wx)
        case first =>
          go_region_with (go_at_call 26; refine (rbit_any _ _).mono ?_; rintro e w' ⟨rfl, rfl⟩)
          all_goals
            go_wp2_with fail
            go_meet
            case rel => exact ⟨by simp [rE7], by simp [rM7], by simp [rR7], by (repeat' (first | with_reducible exact Chg.refl _ _ | with_reducible assumption | with_reducible refine Chg.drew ?_ | with_reducible refine Chg.drewN ?_ _ | with_reducible refine Chg.alloc ?_ _ | with_reducible refine Chg.putRow ?_ _ _ _ (.inr ?_) | with_reducible refine Chg.setCell ?_ _ _ _ (.inr ?_)  | (show _ ≤ _; first | exact Nat.le_refl _ | omega | (simp; done))))⟩
        case rest =>
        obtain ⟨rE, rM, rR, C8⟩ := hcut
        clear rE7 rM7 rR7 oE7 oM7 oR7 C7
        have oR := old rR
        have oE := old rE
        have oM := old rM
        generalize hw8 : wc = w8 at *
        clear hw8
        go_upto_region 20 with fail
        go_region_held3 (fun w' => w'.heap[w.heap.size]? = some (.cells (ec (y.setSh (y.sh ||| bitM y.by_))) 33 (0, 0)) ∧ w'.heap[w.heap.size + 1]? = some (.cells (msc m) 28 (0, 0))) (exact ⟨Chg.keep (l := [w.heap.size + 2]) (w := w8) (by (repeat' (first | with_reducible exact cO | with_reducible exact cT | with_reducible exact Chg.refl _ _ | with_reducible refine Chg.alloc ?_ _ | with_reducible refine Chg.drew ?_ | with_reducible refine Chg.putRow ?_ _ _ _ (.inl (List.mem_singleton.2 rfl))))) rE (by simp), Chg.keep (l := [w.heap.size + 2]) (w := w8) (by (repeat' (first | with_reducible exact cO | with_reducible exact cT | with_reducible exact Chg.refl _ _ | with_reducible refine Chg.alloc ?_ _ | with_reducible refine Chg.drew ?_ | with_reducible refine Chg.putRow ?_ _ _ _ (.inl (List.mem_singleton.2 rfl))))) rM (by simp)⟩)
          (first
            | (go_at_call 35; refine (rbusy0_any _ _).mono ?_; rintro e w' ⟨rfl, c2⟩; (first | (have cO : Chg [w.heap.size + 2] w8 _ := Chg.trans (Chg.refl [w.heap.size + 2] w8).drew (Chg.mono c2 (fun _ h => absurd h List.not_mem_nil))) | (have cO : Chg [w.heap.size + 2] w8 _ := Chg.trans cT (Chg.mono c2 (fun _ h => absurd h List.not_mem_nil))) | (have cO : Chg [w.heap.size + 2] w8 _ := Chg.trans (cT.alloc _) (Chg.mono c2 (fun _ h => absurd h List.not_mem_nil)))); (first | (have rR2 := c2.keep rR List.not_mem_nil) | (have rR2 := c2.keep rR3 List.not_mem_nil) | (have rR2 := Chg.keep ((Chg.refl [] _).alloc _ |>.trans c2) rR3 List.not_mem_nil)))
            | (go_at_call 37; refine (rtell_any _ _ _ _ y.h _).mono ?_; rintro e w' ⟨rfl, c3⟩; (first | (have cT : Chg [w.heap.size + 2] w8 _ := Chg.trans (Chg.refl [w.heap.size + 2] w8).drew (Chg.mono c3 (fun _ h => absurd h List.not_mem_nil))) | (have cT : Chg [w.heap.size + 2] w8 _ := Chg.trans cO (Chg.mono c3 (fun _ h => absurd h List.not_mem_nil))) | (have cT : Chg [w.heap.size + 2] w8 _ := Chg.trans (Chg.putRow cO w.heap.size + 2 0 _ (.inl (List.mem_singleton.2 rfl))) (Chg.mono c3 (fun _ h => absurd h List.not_mem_nil)))); (first | (have rR3 := c3.keep rR List.not_mem_nil) | (have rR3 := c3.keep rR2 List.not_mem_nil) | (have rR3 := c3.keep (put_row rR2 rfl) List.not_mem_nil))))
        all_goals
          go_wp2_with fail
          rw [e1]
          refine bodyPost_ret (results_er3 (by rfl) _ _ (w.heap.size + 2) (overE (y.setSh (y.sh ||| bitM y.by_))) (0, 0) (by rfl) (by first | (simp [rR3]; done) | (simp [rR2]; done) | (simp [rR2, rR3]; done)) _ _ (by rfl) (by rfl)) (by rfl) ?_
          first
            | exact En3r.L1 C8 cT oR (by omega)
            | exact En3r.L1p C8 cT oR (by omega)
            | exact En3r.L1p C8 cO oR (by omega)
            | exact En3r.L2 C8 cT oR (by omega)
            | exact En3r.L2 C8 cO oR (by omega)
            | exact En3r.L3 C8 cT oR (by omega) c2
    · go_wp2_with fail
      rw [show ansF y m.li = ((y, []), 0) by simp [ansF]; intro h; simp [h] at hw]
      refine bodyPost_ret (v := .tuple #[.agg (ec y), .slice none 0 0, .int .i64 0]) ?_ (by rfl) ?_
      · exact results_er3 (by rfl) _ _ (w.heap.size + 2) y (0, 0) (by rfl) (by simp [rR7]; try rfl) _ _ (by rfl) (by rfl)
      exact ⟨none, 0, rfl, ⟨rfl, .inl rfl⟩, by simp, by (repeat' (first | with_reducible exact Chg.refl _ _ | with_reducible assumption | with_reducible refine Chg.drew ?_ | with_reducible refine Chg.drewN ?_ _ | with_reducible refine Chg.alloc ?_ _ | with_reducible refine Chg.putRow ?_ _ _ _ (.inr ?_) | with_reducible refine Chg.setCell ?_ _ _ _ (.inr ?_)  | (show _ ≤ _; first | exact Nat.le_refl _ | omega | (simp; done))))⟩
end Go.Proofs.YtkaabiiedfkaaaaDoor
