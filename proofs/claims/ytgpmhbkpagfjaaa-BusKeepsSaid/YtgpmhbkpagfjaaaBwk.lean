/- What every statement of layer 14 wakes: walked. No condition. -/
import Derived.Test.YtgpmhbkpagfjaaaBuv
import Derived.Test.YtgpmhbkpagfjaaaBuw
import Derived.Test.YtgpmhbkpagfjaaaBup
import Derived.Test.YtgpmhbkpagfjaaaBur
namespace Go.Proofs.Ytgpmhbkpagfjaaa
open Go.RowKit
set_option linter.unusedVariables false
set_option maxHeartbeats 1000000

set_option maxRecDepth 100000
attribute [local go_sem ↓] append_appS copy_copS clear_clrS make_mkS slice_slS lookup_lookS mput_mputS del_mdelS cell_row frozen_row heap_drew heap_drewN heap_alloc heap_past heap_setCell heap_putRow heap_setB loadEv storeEv loadBe storeBe loadSp storeSp loadNw storeNw loadLine storeLine evc_kd evc_co evc_li evc_wo evc_va bec_fl bec_li bec_wo bec_va nwC_0 nwC_1 spC_0 spC_1
attribute [local go_sem] rowCell_some rowFrozen_some rowHas_some rowIn_some rowPart_full rowPart_lit rowPut_full rowPut_lit rowSet_some size_putRow size_setB run_loadS run_storeS run_appS run_copS run_clrS run_mkS run_slS run_lookS run_mputS run_mdelS loadW_at storeW_at fit_all fit_le one_int one_bool one_pointer one_slice allOne_list putRow_new ne_size1 ne_size2 ne_size3 ne_size4 wideEv wideBe wideSp wideNw wideLine evc_size evc_one evc_ne evc_lit evc_z fold_evc bec_size bec_one bec_lit bec_ne bec_at bec_in spC_size spC_one nwC_size nwC_one nwC_ne nwC_set0 nwC_set1 nwC_lit bec_set0 bec_set1 bec_set2 bec_set3 spC_set0 spC_set1 spC_lit fold_spC spC_ne fold_nwC fold_bec fold_at vs_size vs_one ic_size ic_get
attribute [local simp ↓] heap_drew heap_drewN heap_alloc heap_past heap_setCell heap_putRow heap_setB
attribute [local simp] rowCell_some rowFrozen_some rowHas_some rowIn_some rowPart_full rowPart_lit rowPut_full rowPut_lit rowSet_some size_putRow size_setB fit_all putRow_new ne_size1 ne_size2 ne_size3 ne_size4 evc_size bec_size spC_size nwC_size vs_size fit_le
/-- A bus that is new to the world W. -/
def BusW (n m : Nat) (W w : World) (q : Nat) (S : Bs) : Prop := ∃ F, BusM n m w q F S ∧ (∀ z ∈ F, W.heap.size ≤ z) ∧ Chg [] W w
section
variable {n m : Nat} {W w w' : World} {q : Nat} {S : Bs}
theorem BusW.chg (h : BusW n m W w q S) (hc : Chg [] w w') : BusW n m W w' q S := by
  obtain ⟨F, h1, h2, h3⟩ := h
  exact ⟨F, h1.keep hc (by simp), h2, h3.trans hc⟩
theorem BusW.all (h : BusW n m W w q S) : Chg [] W w := by obtain ⟨_, _, _, h⟩ := h; exact h
theorem BusW.weak {V : World} (h : BusW n m W w q S) (hc : Chg [] V W) : BusW n m V w q S := by
  obtain ⟨F, h1, h2, h3⟩ := h
  exact ⟨F, h1, fun z hz => Nat.le_trans hc.size (h2 z hz), hc.trans h3⟩
theorem do_w (h : BusW n m W w q S) {N : Nat} (ok : S.Ok n m N) (hN : N ≤ 1000000) (e : Ev) : Calls Try.prog 11 #[.pointer (some ⟨q, 0, none⟩), .agg (evc e)] w fun r w' => r = .returned (.bool (doB S e).isSome) ∧ BusW n m W w' q ((doB S e).getD S) := by
  obtain ⟨F, h1, h2, h3⟩ := h
  refine (do_ev h1 ok hN e).mono ?_
  rintro r w' ⟨rfl, F', g1, g2, g3⟩
  refine ⟨rfl, F', g1, fun z hz => ?_, h3.trans' g2 (fun z hz => .inr (h2 z hz))⟩
  rcases g3 z hz with h | h
  · exact h2 z h
  · exact Nat.le_trans h3.size h
theorem new_w (m n v : Nat) (c3 c4 c5 c6 : Int) (hg : goodB m n v c3 c4 c5 c6 = true) (w : World) : Calls Try.prog 9 #[.agg #[.int .i64 m, .int .i64 n, .int .i64 v, .int .i64 c3, .int .i64 c4, .int .i64 c5, .int .i64 c6], .slice none 0 0] w fun e w' => ∃ q, e = .returned (.tuple #[.pointer (some ⟨q, 0, none⟩), .int .i64 0]) ∧ BusW n m w w' q (bs0 n m v) := by
  refine (bnew_ok m n v c3 c4 c5 c6 hg w).mono ?_
  rintro e w' ⟨q, F, rfl, h1, h2, h3⟩
  exact ⟨q, rfl, F, h1, h2, h3⟩
end
theorem bs0_ok {n m v : Nat} (h0 : 0 < n) (h64 : n ≤ 64) (hm : m ≤ 8) (hv : v ≤ n) : (bs0 n m v).Ok n m 0 :=
  ⟨h0, h64, hm, hv, by simp [bs0], by simp [bs0], by simp [bs0], by simp [bs0], fun p hp => by have := List.eq_of_mem_replicate hp; subst this; simp, fun c hc => by have := List.eq_of_mem_replicate hc; subst this; exact bcZ_small 0⟩
theorem results_cf {fn : Func} {p : Tmp} (h : fn.results = #[.cell p 23]) (tmps : Array Value) (w : World) (q : Nat) (C : Array Value) (hC : C.size = 7) (fr : Nat × Nat)
    (hp : tmps.getD p undef = .pointer (some ⟨q, 0, none⟩)) (hb : w.heap[q]? = some (.cells C 23 fr)) : (results fn tmps).run Try.prog w = .ok (.agg C) w := by
  have hp' : tmps[p]?.getD undef = .pointer (some ⟨q, 0, none⟩) := by simpa using hp
  have := run_loadVar_row (P := Try.prog) w q 23 23 C fr _ hb Try.underlying23 rfl (by rw [hC]; kernel_rfl)
  simp [results, h, hp', asAddr, this]
theorem results_ev14 {fn : Func} {p : Tmp} (h : fn.results = #[.cell p 38]) (tmps : Array Value) (w : World) (q : Nat) (x : Ev) (fr : Nat × Nat)
    (hp : tmps.getD p undef = .pointer (some ⟨q, 0, none⟩)) (hb : w.heap[q]? = some (.cells (evc x) 38 fr)) : (results fn tmps).run Try.prog w = .ok (.agg (evc x)) w := by
  have hp' : tmps[p]?.getD undef = .pointer (some ⟨q, 0, none⟩) := by simpa using hp
  have := run_loadVar_row (P := Try.prog) w q 38 38 (evc x) fr _ hb Try.underlying38 rfl (by rw [evc_size]; kernel_rfl)
  simp [results, h, hp', asAddr, this]
attribute [local go_sem ↓] evc_set0 evc_set1 evc_set2 evc_set3 evc_set4
theorem at_any (k v : Int) (w : World) : Calls Try.prog 15 #[.int .i64 k, .int .u64 v] w fun e w' => e = .returned (.agg (evc ⟨k, 0, 3, 1, v⟩)) ∧ Chg [] w w' := by
  go_enter Try.func15, Try.ntmps15
  go_wp2_with fail
  refine bodyPost_ret (v := .agg (evc ⟨k, 0, 3, 1, v⟩)) (results_ev14 (by rfl) _ _ w.heap.size _ (0, 0) (by rfl) (by simp; try rfl)) (by rfl) ⟨rfl, (Chg.refl [] w).alloc _⟩
attribute [local go_sem ↓] loadCf storeCf
attribute [local go_sem] wideCf
theorem plain_any (w : World) : Calls Try.prog 14 #[] w fun e w' => e = .returned (.agg #[.int .i64 (2 : Nat), .int .i64 (6 : Nat), .int .i64 (1 : Nat), .int .i64 1, .int .i64 2, .int .i64 2, .int .i64 2]) ∧ Chg [] w w' := by
  go_enter Try.func14, Try.ntmps14
  go_wp2_with fail
  refine bodyPost_ret (v := .agg #[.int .i64 (2 : Nat), .int .i64 (6 : Nat), .int .i64 (1 : Nat), .int .i64 1, .int .i64 2, .int .i64 2, .int .i64 2]) (results_cf (by rfl) _ _ w.heap.size _ (by rfl) (0, 0) (by rfl) (by simp; try rfl)) (by rfl) ⟨rfl, (Chg.refl [] w).alloc _⟩
/-! ### What every statement of layer 14 wakes -/
def evA (k v : Int) : Ev := ⟨k, 0, 3, 1, v⟩
def wk0 : Bs := bs0 6 2 1
def wk1 : Bs := (doB wk0 (evA 12 5)).getD wk0
def wk2 : Bs := (doB wk1 (evA 2 5)).getD wk1
def wk4 : Bs := (doB wk2 (evA 3 5)).getD wk2
def wk5 : Bs := (doB wk4 (evA 1 5)).getD wk4
def wk7 : Bs := (doB wk5 ⟨5, 0, 3, 0, 0⟩).getD wk5
theorem wv1 : (doB wk0 (evA 12 5)).isSome = true := by rfl
theorem wv2 : (doB wk1 (evA 2 5)).isSome = true := by rfl
theorem wv3 : doB wk2 (evA 1 0) = none := by rfl
theorem wv4 : (doB wk2 (evA 3 5)).isSome = true := by rfl
theorem wv5 : (doB wk4 (evA 1 5)).isSome = true := by rfl
theorem wv6 : doB wk5 (evA 1 0) = none := by rfl
theorem wv7 : (doB wk5 ⟨5, 0, 3, 0, 0⟩).isSome = true := by rfl
theorem wok0 : wk0.Ok 6 2 0 := bs0_ok (by omega) (by omega) (by omega) (by omega)
theorem wok1 : wk1.Ok 6 2 1 := do_ok wok0 _
theorem wok2 : wk2.Ok 6 2 2 := do_ok wok1 _
theorem wok4 : wk4.Ok 6 2 3 := do_ok wok2 _
theorem wok5 : wk5.Ok 6 2 4 := do_ok wok4 _
theorem wok7 : wk7.Ok 6 2 5 := do_ok wok5 _
theorem LinesOf.all {w w' : World} {n : Nat} {xs : List Int} {e : Ending} (h : LinesOf w n xs e w') : Chg [] w w' := by obtain ⟨_, _, _, _, _, _, _, h⟩ := h; exact h
theorem wakes_any (W : World) : Calls Try.prog 8 #[] W fun e w' => e = .returned (.bool true) ∧ Chg [] W w' := by
  have la : ∀ r : List Value, (bk wk5.ks r)[25]? = some (.int .u64 0) := fun r => rfl
  have lb : ∀ r : List Value, (bk wk5.ls r)[25]? = some (.int .u64 5) := fun r => rfl
  have lc : ∀ r : List Value, (bk wk7.ks r)[25]? = some (.int .u64 5) := fun r => rfl
  have lp : ((wk5.core 0).buf.length : Int) = 0 := rfl
  go_enter Try.func8, Try.ntmps8
  try dsimp only [List.append]
  go_upto_region 4 with (first | (go_at_call 14; refine (plain_any _).mono ?_; rintro e w1 ⟨rfl, c1⟩; have C1 := Lib.hid c1; clear c1) | (go_at_call 9; refine (new_w 2 6 1 1 2 2 2 rfl _).mono ?_; rintro e w2 ⟨q, rfl, h0⟩; have H0 := Lib.hid (show BusW 6 2 W w2 q wk0 from h0.weak C1.out); clear h0))
  go_upto_region 6 with (first | (go_at_call 15; refine (at_any _ _ _).mono ?_; rintro e u0 ⟨rfl, c⟩; have K0 := Lib.hid (H0.out.chg c); clear c H0) | (go_at_call 11; refine (do_w K0.out wok0 (by omega) (evA 12 5)).mono ?_; rintro e x0 ⟨rfl, h⟩; rw [wv1]; have H1 := Lib.hid (show BusW 6 2 W x0 q wk1 from h); clear h K0) | (go_at_call 15; refine (at_any _ _ _).mono ?_; rintro e u1 ⟨rfl, c⟩; have K1 := Lib.hid (H1.out.chg c); clear c H1) | (go_at_call 11; refine (do_w K1.out wok1 (by omega) (evA 2 5)).mono ?_; rintro e x1 ⟨rfl, h⟩; rw [wv2]; have H2 := Lib.hid (show BusW 6 2 W x1 q wk2 from h); clear h K1) | (go_at_call 15; refine (at_any _ _ _).mono ?_; rintro e u2 ⟨rfl, c⟩; have K2 := Lib.hid (H2.out.chg c); clear c H2) | (go_at_call 11; refine (do_w K2.out wok2 (by omega) (evA 1 0)).mono ?_; rintro e x2 ⟨rfl, h⟩; rw [wv3] at h ⊢; have H3 := Lib.hid (show BusW 6 2 W x2 q wk2 from h); clear h K2) | (go_at_call 15; refine (at_any _ _ _).mono ?_; rintro e u3 ⟨rfl, c⟩; have K3 := Lib.hid (H3.out.chg c); clear c H3) | (go_at_call 11; refine (do_w K3.out wok2 (by omega) (evA 3 5)).mono ?_; rintro e x3 ⟨rfl, h⟩; rw [wv4]; have H4 := Lib.hid (show BusW 6 2 W x3 q wk4 from h); clear h K3) | (go_at_call 15; refine (at_any _ _ _).mono ?_; rintro e u4 ⟨rfl, c⟩; have K4 := Lib.hid (H4.out.chg c); clear c H4) | (go_at_call 11; refine (do_w K4.out wok4 (by omega) (evA 1 5)).mono ?_; rintro e x4 ⟨rfl, h⟩; rw [wv5]; have H5 := Lib.hid (show BusW 6 2 W x4 q wk5 from h); clear h K4) | (go_at_call 15; refine (at_any _ _ _).mono ?_; rintro e u5 ⟨rfl, c⟩; have K5 := Lib.hid (H5.out.chg c); clear c H5) | (go_at_call 11; refine (do_w K5.out wok5 (by omega) (evA 1 0)).mono ?_; rintro e x5 ⟨rfl, h⟩; rw [wv6] at h ⊢; have H6 := Lib.hid (show BusW 6 2 W x5 q wk5 from h); clear h K5))
  have HK := Lib.hid wok5
  go_upto_region 7 with (first | (go_at_call 10; refine (by { obtain ⟨F, g1, _⟩ := H6.out; exact bkept_ok g1 HK.out } : Calls Try.prog 10 _ _ (LinesOf _ 6 wk5.ks)).mono ?_; rintro e y1 ⟨ka, kc, kr, rfl, kh, kg, kl, kd⟩; have H7 := Lib.hid (H6.out.chg kd); clear H6) | (go_at_call 12; refine (by { obtain ⟨F, g1, _⟩ := H7.out; exact blines_ok g1 HK.out } : Calls Try.prog 12 _ _ (LinesOf _ 6 wk5.ls)).mono ?_; rintro e y2 ⟨la', lc', lr, rfl, lh, lg, ll, ld⟩; have H8 := Lib.hid (H7.out.chg ld); have kh2 := ld.keep kh (by simp); clear H7))
  have a0 := la kr
  have b0 := lb lr
  go_wp2_with (first | (go_at_call 13; refine (by { obtain ⟨F, g1, _⟩ := H8.out; exact bpend_ok (i := 0) g1 (by omega) } : Calls Try.prog 13 _ _ (fun e w' => e = .returned (.int .i64 (wk5.core 0).buf.length) ∧ Chg [] _ w')).mono ?_; rintro e y3 ⟨rfl, c⟩; rw [lp]; have H9 := Lib.hid (H8.out.chg c); clear c H8) | (go_at_call 11; refine (do_w H9.out wok5 (by omega) ⟨5, 0, 3, 0, 0⟩).mono ?_; rintro e x9 ⟨rfl, h⟩; rw [wv7]; have H10 := Lib.hid (show BusW 6 2 W x9 q wk7 from h); clear h H9) | (go_at_call 10; refine (by { obtain ⟨F, g1, _⟩ := H10.out; exact bkept_ok g1 wok7 } : Calls Try.prog 10 _ _ (LinesOf _ 6 wk7.ks)).mono ?_; rintro e y4 ⟨na, nc, nr, rfl, nh, ng, nl, nd⟩; have H11 := Lib.hid (H10.out.chg nd); have d0 := lc nr; clear H10))
  go_ret
  exact ⟨rfl, H11.out.all⟩
end Go.Proofs.Ytgpmhbkpagfjaaa
