/- What every statement of layer 14 wakes: walked. No condition. -/
import Derived.Test.YtnocekhgabgffaaBuv
import Derived.Test.YtnocekhgabgffaaBuw
import Derived.Test.YtnocekhgabgffaaBup
import Derived.Test.YtnocekhgabgffaaBur
namespace Go.Proofs.Ytnocekhgabgffaa
open Go.RowKit
set_option linter.unusedVariables false
set_option maxHeartbeats 1000000

set_option maxRecDepth 100000
attribute [local go_sem ↓] append_appS copy_copS clear_clrS make_mkS slice_slS lookup_lookS mput_mputS del_mdelS cell_row frozen_row heap_drew heap_drewN heap_alloc heap_past heap_setCell heap_putRow heap_setB loadEv storeEv loadBe storeBe loadSp storeSp loadNw storeNw loadLine storeLine evc_kd evc_co evc_li evc_wo evc_va bec_fl bec_li bec_wo bec_va nwC_0 nwC_1 spC_0 spC_1
attribute [local go_sem] rowCell_some rowFrozen_some rowHas_some rowIn_some rowPart_full rowPart_lit rowPut_full rowPut_lit rowSet_some size_putRow size_setB run_loadS run_storeS run_appS run_copS run_clrS run_mkS run_slS run_lookS run_mputS run_mdelS loadW_at storeW_at fit_all fit_le one_int one_bool one_pointer one_slice allOne_list putRow_new ne_size1 ne_size2 ne_size3 ne_size4 wideEv wideBe wideSp wideNw wideLine evc_size evc_one evc_ne evc_lit evc_z fold_evc bec_size bec_one bec_lit bec_ne bec_at bec_in spC_size spC_one nwC_size nwC_one nwC_ne nwC_set0 nwC_set1 nwC_lit bec_set0 bec_set1 bec_set2 bec_set3 spC_set0 spC_set1 spC_lit fold_spC spC_ne fold_nwC fold_bec fold_at vs_size vs_one ic_size ic_get
attribute [local simp ↓] heap_drew heap_drewN heap_alloc heap_past heap_setCell heap_putRow heap_setB
attribute [local simp] rowCell_some rowFrozen_some rowHas_some rowIn_some rowPart_full rowPart_lit rowPut_full rowPut_lit rowSet_some size_putRow size_setB fit_all putRow_new ne_size1 ne_size2 ne_size3 ne_size4 evc_size bec_size spC_size nwC_size vs_size fit_le
/-- A bus that is new to the world W. -/
def BusW (n m : Nat) (W w : World) (q : Nat) (S : Bs) : Prop := ∃ F, BusM n m w q F S ∧ (∀ z ∈ F, W.heap.size ≤ z) ∧ Chg [] W w
section
variable {n m : Nat} {W w w' : World} {q : Nat} {S : Bs}
theorem BusW.chg (h : BusW n m W w q S) (hc : Chg [] w w') : BusW n m W w' q S := by
  obtain ⟨F, h1, h2, h3⟩ := h
  exact ⟨F, h1.keep hc (by simp), h2, h3.trans hc⟩
theorem BusW.all (h : BusW n m W w q S) : Chg [] W w := by obtain ⟨_, _, _, h⟩ := h; exact h
theorem BusW.weak {V : World} (h : BusW n m W w q S) (hc : Chg [] V W) : BusW n m V w q S := by
  obtain ⟨F, h1, h2, h3⟩ := h
  exact ⟨F, h1, fun z hz => Nat.le_trans hc.size (h2 z hz), hc.trans h3⟩
theorem do_w (h : BusW n m W w q S) {N : Nat} (ok : S.Ok n m N) (hN : N ≤ 1000000) (e : Ev) : Calls Try.prog 35 #[.pointer (some ⟨q, 0, none⟩), .agg (evc e)] w fun r w' => r = .returned (.bool (doB S e).isSome) ∧ BusW n m W w' q ((doB S e).getD S) := by
  obtain ⟨F, h1, h2, h3⟩ := h
  refine (do_ev h1 ok hN e).mono ?_
  rintro r w' ⟨rfl, F', g1, g2, g3⟩
  refine ⟨rfl, F', g1, fun z hz => ?_, h3.trans' g2 (fun z hz => .inr (h2 z hz))⟩
  rcases g3 z hz with h | h
  · exact h2 z h
  · exact Nat.le_trans h3.size h
theorem new_w (m n v : Nat) (c3 c4 c5 c6 : Int) (hg : goodB m n v c3 c4 c5 c6 = true) (w : World) : Calls Try.prog 22 #[.agg #[.int .i64 m, .int .i64 n, .int .i64 v, .int .i64 c3, .int .i64 c4, .int .i64 c5, .int .i64 c6], .slice none 0 0] w fun e w' => ∃ q, e = .returned (.tuple #[.pointer (some ⟨q, 0, none⟩), .int .i64 0]) ∧ BusW n m w w' q (bs0 n m v) := by
  refine (bnew_ok m n v c3 c4 c5 c6 hg w).mono ?_
  rintro e w' ⟨q, F, rfl, h1, h2, h3⟩
  exact ⟨q, rfl, F, h1, h2, h3⟩
end
theorem bs0_ok {n m v : Nat} (h0 : 0 < n) (h64 : n ≤ 64) (hm : m ≤ 8) (hv : v ≤ n) : (bs0 n m v).Ok n m 0 :=
  ⟨h0, h64, hm, hv, by simp [bs0], by simp [bs0], by simp [bs0], by simp [bs0], fun p hp => by have := List.eq_of_mem_replicate hp; subst this; simp, fun c hc => by have := List.eq_of_mem_replicate hc; subst this; exact bcZ_small 0⟩
theorem results_cf {fn : Func} {p : Tmp} (h : fn.results = #[.cell p 23]) (tmps : Array Value) (w : World) (q : Nat) (C : Array Value) (hC : C.size = 7) (fr : Nat × Nat)
    (hp : tmps.getD p undef = .pointer (some ⟨q, 0, none⟩)) (hb : w.heap[q]? = some (.cells C 23 fr)) : (results fn tmps).run Try.prog w = .ok (.agg C) w := by
  have hp' : tmps[p]?.getD undef = .pointer (some ⟨q, 0, none⟩) := by simpa using hp
  have := run_loadVar_row (P := Try.prog) w q 23 23 C fr _ hb Try.underlying23 rfl (by rw [hC]; kernel_rfl)
  simp [results, h, hp', asAddr, this]
theorem results_ev14 {fn : Func} {p : Tmp} (h : fn.results = #[.cell p 41]) (tmps : Array Value) (w : World) (q : Nat) (x : Ev) (fr : Nat × Nat)
    (hp : tmps.getD p undef = .pointer (some ⟨q, 0, none⟩)) (hb : w.heap[q]? = some (.cells (evc x) 41 fr)) : (results fn tmps).run Try.prog w = .ok (.agg (evc x)) w := by
  have hp' : tmps[p]?.getD undef = .pointer (some ⟨q, 0, none⟩) := by simpa using hp
  have := run_loadVar_row (P := Try.prog) w q 41 41 (evc x) fr _ hb Try.underlying41 rfl (by rw [evc_size]; kernel_rfl)
  simp [results, h, hp', asAddr, this]
attribute [local go_sem ↓] evc_set0 evc_set1 evc_set2 evc_set3 evc_set4
theorem at_any (k v : Int) (w : World) : Calls Try.prog 14 #[.int .i64 k, .int .u64 v] w fun e w' => e = .returned (.agg (evc ⟨k, 0, 3, 1, v⟩)) ∧ Chg [] w w' := by
  go_enter Try.func14, Try.ntmps14
  go_wp2_with fail
  refine bodyPost_ret (v := .agg (evc ⟨k, 0, 3, 1, v⟩)) (results_ev14 (by rfl) _ _ w.heap.size _ (0, 0) (by rfl) (by simp; try rfl)) (by rfl) ⟨rfl, (Chg.refl [] w).alloc _⟩
attribute [local go_sem ↓] loadCf storeCf
attribute [local go_sem] wideCf
theorem plain_any (w : World) : Calls Try.prog 15 #[] w fun e w' => e = .returned (.agg #[.int .i64 (2 : Nat), .int .i64 (6 : Nat), .int .i64 (1 : Nat), .int .i64 1, .int .i64 2, .int .i64 2, .int .i64 2]) ∧ Chg [] w w' := by
  go_enter Try.func15, Try.ntmps15
  go_wp2_with fail
  refine bodyPost_ret (v := .agg #[.int .i64 (2 : Nat), .int .i64 (6 : Nat), .int .i64 (1 : Nat), .int .i64 1, .int .i64 2, .int .i64 2, .int .i64 2]) (results_cf (by rfl) _ _ w.heap.size _ (by rfl) (0, 0) (by rfl) (by simp; try rfl)) (by rfl) ⟨rfl, (Chg.refl [] w).alloc _⟩
/-! ### What every statement of layer 14 wakes -/
def evA (k v : Int) : Ev := ⟨k, 0, 3, 1, v⟩
def wk0 : Bs := bs0 6 2 1
def wk1 : Bs := (doB wk0 (evA 12 5)).getD wk0
def wk2 : Bs := (doB wk1 (evA 2 5)).getD wk1
def wk4 : Bs := (doB wk2 (evA 3 5)).getD wk2
def wk5 : Bs := (doB wk4 (evA 1 5)).getD wk4
def wk7 : Bs := (doB wk5 ⟨5, 0, 3, 0, 0⟩).getD wk5
theorem wv1 : (doB wk0 (evA 12 5)).isSome = true := by rfl
theorem wv2 : (doB wk1 (evA 2 5)).isSome = true := by rfl
theorem wv3 : doB wk2 (evA 1 0) = none := by rfl
theorem wv4 : (doB wk2 (evA 3 5)).isSome = true := by rfl
theorem wv5 : (doB wk4 (evA 1 5)).isSome = true := by rfl
theorem wv6 : doB wk5 (evA 1 0) = none := by rfl
theorem wv7 : (doB wk5 ⟨5, 0, 3, 0, 0⟩).isSome = true := by rfl
theorem wok0 : wk0.Ok 6 2 0 := bs0_ok (by omega) (by omega) (by omega) (by omega)
theorem wok1 : wk1.Ok 6 2 1 := do_ok wok0 _
theorem wok2 : wk2.Ok 6 2 2 := do_ok wok1 _
theorem wok4 : wk4.Ok 6 2 3 := do_ok wok2 _
theorem wok5 : wk5.Ok 6 2 4 := do_ok wok4 _
theorem wok7 : wk7.Ok 6 2 5 := do_ok wok5 _
theorem LinesOf.all {w w' : World} {n : Nat} {xs : List Int} {e : Ending} (h : LinesOf w n xs e w') : Chg [] w w' := by obtain ⟨_, _, _, _, _, _, _, h⟩ := h; exact h
end Go.Proofs.Ytnocekhgabgffaa
