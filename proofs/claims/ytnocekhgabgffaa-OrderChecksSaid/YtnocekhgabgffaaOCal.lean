/- Texts of the walk, one behind the other: Rbv Wordc Rbw Rbx Rby Ord Bkj Blc Orp. No condition. -/
import Derived.Test.YtnocekhgabgffaaOCab
import Derived.Test.YtnocekhgabgffaaOCac
import Derived.Test.YtnocekhgabgffaaOCae
import Derived.Test.YtnocekhgabgffaaOCaf
import Derived.Test.YtnocekhgabgffaaOCaj
import Derived.Test.YtnocekhgabgffaaOCak
import Derived.BigGuard
import Derived.BigGuardPart
section
namespace Go.Proofs.Ytnocekhgabgffaa
open Go.RowKit
set_option linter.unusedVariables false
set_option maxHeartbeats 1000000

set_option maxRecDepth 100000
attribute [local go_sem ↓] append_appS copy_copS clear_clrS make_mkS slice_slS lookup_lookS mput_mputS del_mdelS cell_row frozen_row heap_drew heap_drewN heap_alloc heap_past heap_setCell heap_putRow heap_setB loadEv storeEv loadBe storeBe loadSp storeSp loadNw storeNw loadLine storeLine evc_kd evc_co evc_li evc_wo evc_va bec_fl bec_li bec_wo bec_va nwC_0 nwC_1 spC_0 spC_1
attribute [local go_sem] rowCell_some rowFrozen_some rowHas_some rowIn_some rowPart_full rowPart_lit rowPut_full rowPut_lit rowSet_some size_putRow size_setB run_loadS run_storeS run_appS run_copS run_clrS run_mkS run_slS run_lookS run_mputS run_mdelS loadW_at storeW_at fit_all fit_le one_int one_bool one_pointer one_slice allOne_list putRow_new ne_size1 ne_size2 ne_size3 ne_size4 wideEv wideBe wideSp wideNw wideLine evc_size evc_one evc_ne evc_lit evc_z fold_evc bec_size bec_one bec_lit bec_ne bec_at bec_in spC_size spC_one nwC_size nwC_one nwC_ne nwC_set0 nwC_set1 nwC_lit bec_set0 bec_set1 bec_set2 bec_set3 spC_set0 spC_set1 spC_lit fold_spC spC_ne fold_nwC fold_bec fold_at vs_size vs_one ic_size ic_get
attribute [local simp ↓] heap_drew heap_drewN heap_alloc heap_past heap_setCell heap_putRow heap_setB
attribute [local simp] rowCell_some rowFrozen_some rowHas_some rowIn_some rowPart_full rowPart_lit rowPut_full rowPut_lit rowSet_some size_putRow size_setB fit_all putRow_new ne_size1 ne_size2 ne_size3 ne_size4 evc_size bec_size spC_size nwC_size vs_size fit_le
section
variable {z : Cf} {w w' : World} {q bl kb bp bc ck : Nat} {I : List Nat} {xs : List Ci} {R : Rb} {N : Nat}
theorem rdo_any (P : DbP z w q bl kb bp bc ck I xs R) (ok : R.Ok z N) (hN : N ≤ 1000) (e : Ev) :
    Calls Try.prog 19 #[.pointer (some ⟨q, 0, none⟩), .agg (evc e)] w (DoTo18 z w q bl kb bp bc ck I R (doR R e)) := by
  obtain ⟨kd, co, li, wo, va⟩ := e
  cases hh : hasR R ⟨kd, co, li, wo, va⟩ with
  | false =>
    have hd : doR R ⟨kd, co, li, wo, va⟩ = none := by unfold doR; rw [if_neg (by rw [hh]; simp)]
    rw [hd]
    exact rdo_off P ok hN kd co li wo va hh
  | true =>
    obtain ⟨hk, hC, hL, hW⟩ := has_cases ok hh
    simp only at hk hC hL hW
    by_cases h5 : kd = 5
    · subst h5
      obtain ⟨l, rfl, hl⟩ := hL rfl
      have hd : doR R ⟨5, co, l, wo, va⟩ = some (R.push l) := by unfold doR; rw [if_pos hh]; rfl
      rw [hd]
      by_cases hv : l < z.v
      · exact rdo_pushv P ok hN 5 co l wo va l hl rfl hv hh rfl
      · exact rdo_pushn P ok hN 5 co l wo va l hl rfl hv hh rfl
    by_cases h11 : kd = 11
    · subst h11
      have hd : doR R ⟨11, co, li, wo, va⟩ = some R.fail := by unfold doR; rw [if_pos hh]; rfl
      rw [hd]
      exact rdo_fail P ok hN 11 co li wo va hh rfl rfl
    obtain ⟨i, rfl, hi⟩ := hC (by
      rcases hk with rfl | rfl | rfl | rfl | rfl | rfl | rfl | rfl | rfl | rfl | rfl | rfl | rfl | rfl
      all_goals first | rfl | exact absurd rfl h5 | exact absurd rfl h11)
    have t5 : (kd == 5) = false := by simpa using h5
    have t11 : (kd == 11) = false := by simpa using h11
    have hd : doR R ⟨kd, i, li, wo, va⟩ = if ((kd != 3 && (kd != 13 && kd != 6)) && (R.core i).st) || !(mayR R (R.core i) ⟨kd, i, li, wo, va⟩) then none else some (doneR R ⟨kd, i, li, wo, va⟩) := by
      unfold doR
      rw [if_pos hh, if_neg h5, if_neg h11]; rfl
    rw [hd]
    clear hd
    cases k3 : (kd != 3) with
    | false =>
      cases hm : mayR R (R.core i) ⟨kd, i, li, wo, va⟩ with
      | true => exact rdo_3true P ok hN kd i li wo va i hi rfl hh t5 t11 k3 hm
      | false => exact rdo_3false P ok hN kd i li wo va i hi rfl hh t5 t11 k3 hm
    | true =>
      cases k13 : (kd != 13) with
      | false =>
        cases hm : mayR R (R.core i) ⟨kd, i, li, wo, va⟩ with
        | true => exact rdo_13true P ok hN kd i li wo va i hi rfl hh t5 t11 k3 k13 hm
        | false => exact rdo_13false P ok hN kd i li wo va i hi rfl hh t5 t11 k3 k13 hm
      | true =>
        cases k6 : (kd != 6) with
        | false =>
          cases hm : mayR R (R.core i) ⟨kd, i, li, wo, va⟩ with
          | true => exact rdo_6true P ok hN kd i li wo va i hi rfl hh t5 t11 k3 k13 k6 hm
          | false => exact rdo_6false P ok hN kd i li wo va i hi rfl hh t5 t11 k3 k13 k6 hm
        | true =>
          cases hs : (R.core i).st with
          | true => exact rdo_stopped P ok hN kd i li wo va i hi rfl hh t5 t11 k3 k13 k6 hs
          | false =>
            cases hm : mayR R (R.core i) ⟨kd, i, li, wo, va⟩ with
            | true => exact rdo_rtrue P ok hN kd i li wo va i hi rfl hh t5 t11 k3 k13 k6 hs hm
            | false => exact rdo_rfalse P ok hN kd i li wo va i hi rfl hh t5 t11 k3 k13 k6 hs hm
end
/-! ### Runs of the document's bus -/
def trialR (R : Rb) : List Ev → Nat × Rb
  | [] => (0, R)
  | e :: l => match doR R e with
    | none => (0, R)
    | some T => ((trialR T l).1 + 1, (trialR T l).2)
theorem trialR_stop {R : Rb} {e : Ev} {l : List Ev} (h : doR R e = none) : trialR R (e :: l) = (0, R) := by show (match doR R e with | none => (0, R) | some T => ((trialR T l).1 + 1, (trialR T l).2)) = _; rw [h]
theorem trialR_go {R T : Rb} {e : Ev} {l : List Ev} (h : doR R e = some T) : trialR R (e :: l) = ((trialR T l).1 + 1, (trialR T l).2) := by show (match doR R e with | none => (0, R) | some T => ((trialR T l).1 + 1, (trialR T l).2)) = _; rw [h]
theorem trial_sim {n m : Nat} : ∀ (l : List Ev) {S : Bs} {R : Rb} {N : Nat}, S.Ok n m N → Sim n m S R → (trialR R l).1 = (trialB S l).1 ∧ Sim n m (trialB S l).2 (trialR R l).2
  | [], S, R, N, ok, h => ⟨rfl, h⟩
  | e :: l, S, R, N, ok, h => by
    have ha := sim_do ok h e
    cases hB : doB S e with
    | none =>
      cases hR : doR R e with
      | none => rw [trialB_stop hB, trialR_stop hR]; exact ⟨rfl, h⟩
      | some T => rw [hB, hR] at ha; exact absurd ha (by unfold Alike; exact id)
    | some S' =>
      cases hR : doR R e with
      | none => rw [hB, hR] at ha; exact absurd ha (by unfold Alike; exact id)
      | some T =>
        rw [hB, hR] at ha
        have hs : Sim n m S' T := ha
        have h1 := do_ok ok e
        rw [hB] at h1
        have ih := trial_sim l (show S'.Ok n m (N + 1) from h1) hs
        rw [trialB_go hB, trialR_go hR]
        exact ⟨by simp only [ih.1], ih.2⟩
/-- The document's bus, new. -/
def rb1 (n m v : Nat) (X : List Int) : Rb := ⟨v, X, X, List.replicate n 0, List.replicate m rcZ⟩
theorem rb1_ok {z : Cf} {X : List Int} (n0 : 0 < z.n) (n64 : z.n ≤ 64) (m8 : z.m ≤ 8) (vn : z.v ≤ z.n) (hX : X.length = z.n * 8) : (rb1 z.n z.m z.v X).Ok z 0 :=
  ⟨n0, n64, m8, vn, rfl, hX, hX, by simp [rb1], by simp [rb1], fun p hp => by rw [List.eq_of_mem_replicate hp]; omega, fun c hc => by rw [List.eq_of_mem_replicate hc]; exact ⟨Nat.le_refl _, Nat.le_refl _⟩⟩
theorem sim_new {n m v : Nat} {X : List Int} (hz : ∀ l, l < v → ln X l = zln) : Sim n m (bs1 n m v X) (rb1 n m v X) := by
  have hr : ∀ i, (rb1 n m v X).core i = rcZ := fun i => rcore_rep (R := ⟨v, X, X, List.replicate n 0, []⟩) m i
  refine ⟨rfl, rfl, rfl, rfl, by simp [rb1], fun i hi => ?_, hz, fun i hi l p hp => ?_⟩
  · rw [hr i]
    have : (bs1 n m v X).core i = bcZ := by
      unfold Bs.core bs1
      rw [List.getD_eq_getElem?_getD]
      simp only [List.getElem?_replicate]
      split <;> rfl
    rw [this]; exact csim_zero
  · rw [hr i] at hp; cases hp
end Go.Proofs.Ytnocekhgabgffaa
end
section
namespace Go.Proofs.Ytnocekhgabgffaa
open Go.RowKit
set_option linter.unusedVariables false
set_option maxRecDepth 100000
set_option maxHeartbeats 2000000 in
theorem wdrgood_0 (c0 c1 c2 c3 c4 c5 c6 : Int) (w : World) (h : ¬ (1 ≤ c0 ∧ c0 ≤ 8)) : Calls Try.prog 26 #[.agg #[.int .i64 c0, .int .i64 c1, .int .i64 c2, .int .i64 c3, .int .i64 c4, .int .i64 c5, .int .i64 c6]] w fun e w' => e = .returned (.bool false) ∧ w' = w.alloc (.cells #[.int .i64 c0, .int .i64 c1, .int .i64 c2, .int .i64 c3, .int .i64 c4, .int .i64 c5, .int .i64 c6] 23) := by
  by_cases h7 : 1 ≤ c0
  · have h8 : decide (c0 ≤ 8) = false := by simp; omega
    clear h
    go_enter Try.func26, Try.ntmps26
    dsimp only [List.append]
    go_wp2
    go_ret
    exact ⟨rfl, rfl⟩
  · have h8 : decide (1 ≤ c0) = false := by simp; omega
    clear h h7
    go_enter Try.func26, Try.ntmps26
    dsimp only [List.append]
    go_wp2
    go_ret
    exact ⟨rfl, rfl⟩
set_option maxHeartbeats 2000000 in
theorem wdrgood_1 (c0 c1 c2 c3 c4 c5 c6 : Int) (w : World) (p0 : 1 ≤ c0) (q0 : c0 ≤ 8) (h : ¬ (2 ≤ c1 ∧ c1 ≤ 64)) : Calls Try.prog 26 #[.agg #[.int .i64 c0, .int .i64 c1, .int .i64 c2, .int .i64 c3, .int .i64 c4, .int .i64 c5, .int .i64 c6]] w fun e w' => e = .returned (.bool false) ∧ w' = w.alloc (.cells #[.int .i64 c0, .int .i64 c1, .int .i64 c2, .int .i64 c3, .int .i64 c4, .int .i64 c5, .int .i64 c6] 23) := by
  by_cases h7 : 2 ≤ c1
  · have h8 : decide (c1 ≤ 64) = false := by simp; omega
    clear h
    go_enter Try.func26, Try.ntmps26
    dsimp only [List.append]
    go_wp2
    go_ret
    exact ⟨rfl, rfl⟩
  · have h8 : decide (2 ≤ c1) = false := by simp; omega
    clear h h7
    go_enter Try.func26, Try.ntmps26
    dsimp only [List.append]
    go_wp2
    go_ret
    exact ⟨rfl, rfl⟩
set_option maxHeartbeats 2000000 in
theorem wdrgood_2 (c0 c1 c2 c3 c4 c5 c6 : Int) (w : World) (p0 : 1 ≤ c0) (q0 : c0 ≤ 8) (p1 : 2 ≤ c1) (q1 : c1 ≤ 64) (h : ¬ (1 ≤ c2 ∧ c2 ≤ c1 - 1)) : Calls Try.prog 26 #[.agg #[.int .i64 c0, .int .i64 c1, .int .i64 c2, .int .i64 c3, .int .i64 c4, .int .i64 c5, .int .i64 c6]] w fun e w' => e = .returned (.bool false) ∧ w' = w.alloc (.cells #[.int .i64 c0, .int .i64 c1, .int .i64 c2, .int .i64 c3, .int .i64 c4, .int .i64 c5, .int .i64 c6] 23) := by
  by_cases h7 : 1 ≤ c2
  · have h8 : decide (c2 < c1) = false := by simp; omega
    clear h
    go_enter Try.func26, Try.ntmps26
    dsimp only [List.append]
    go_wp2
    go_ret
    exact ⟨rfl, rfl⟩
  · have h8 : decide (1 ≤ c2) = false := by simp; omega
    clear h h7
    go_enter Try.func26, Try.ntmps26
    dsimp only [List.append]
    go_wp2
    go_ret
    exact ⟨rfl, rfl⟩
set_option maxHeartbeats 2000000 in
theorem wdrgood_3 (c0 c1 c2 c3 c4 c5 c6 : Int) (w : World) (p0 : 1 ≤ c0) (q0 : c0 ≤ 8) (p1 : 2 ≤ c1) (q1 : c1 ≤ 64) (p2 : 1 ≤ c2) (q2 : c2 ≤ c1 - 1) (h : ¬ (c3 = 1 ∨ c3 = 2 ∨ c3 = 4 ∨ c3 = 8)) : Calls Try.prog 26 #[.agg #[.int .i64 c0, .int .i64 c1, .int .i64 c2, .int .i64 c3, .int .i64 c4, .int .i64 c5, .int .i64 c6]] w fun e w' => e = .returned (.bool false) ∧ w' = w.alloc (.cells #[.int .i64 c0, .int .i64 c1, .int .i64 c2, .int .i64 c3, .int .i64 c4, .int .i64 c5, .int .i64 c6] 23) := by
  have q2' : c2 < c1 := by omega
  clear q2
  have e1 : (c3 == 1) = false := by simp; omega
  have e2 : (c3 == 2) = false := by simp; omega
  have e4 : (c3 == 4) = false := by simp; omega
  have e8 : (c3 == 8) = false := by simp; omega
  clear h
  go_enter Try.func26, Try.ntmps26
  dsimp only [List.append]
  go_wp2
  go_ret
  exact ⟨rfl, rfl⟩
set_option maxHeartbeats 2000000 in
theorem wdrgood_4 (c0 c1 c2 c3 c4 c5 c6 : Int) (w : World) (p0 : 1 ≤ c0) (q0 : c0 ≤ 8) (p1 : 2 ≤ c1) (q1 : c1 ≤ 64) (p2 : 1 ≤ c2) (q2 : c2 ≤ c1 - 1) (s : c3 = 1 ∨ c3 = 2 ∨ c3 = 4 ∨ c3 = 8) (h : ¬ (1 ≤ c4 ∧ c4 ≤ 8)) : Calls Try.prog 26 #[.agg #[.int .i64 c0, .int .i64 c1, .int .i64 c2, .int .i64 c3, .int .i64 c4, .int .i64 c5, .int .i64 c6]] w fun e w' => e = .returned (.bool false) ∧ w' = w.alloc (.cells #[.int .i64 c0, .int .i64 c1, .int .i64 c2, .int .i64 c3, .int .i64 c4, .int .i64 c5, .int .i64 c6] 23) := by
  have q2' : c2 < c1 := by omega
  clear q2
  obtain rfl | rfl | rfl | rfl := s
  all_goals
    by_cases h7 : 1 ≤ c4
    · have h8 : decide (c4 ≤ 8) = false := by simp; omega
      clear h
      go_enter Try.func26, Try.ntmps26
      dsimp only [List.append]
      go_wp2
      go_ret
      exact ⟨rfl, rfl⟩
    · have h8 : decide (1 ≤ c4) = false := by simp; omega
      clear h h7
      go_enter Try.func26, Try.ntmps26
      dsimp only [List.append]
      go_wp2
      go_ret
      exact ⟨rfl, rfl⟩
set_option maxHeartbeats 2000000 in
theorem wdrgood_5 (c0 c1 c2 c3 c4 c5 c6 : Int) (w : World) (p0 : 1 ≤ c0) (q0 : c0 ≤ 8) (p1 : 2 ≤ c1) (q1 : c1 ≤ 64) (p2 : 1 ≤ c2) (q2 : c2 ≤ c1 - 1) (s : c3 = 1 ∨ c3 = 2 ∨ c3 = 4 ∨ c3 = 8) (p4 : 1 ≤ c4) (q4 : c4 ≤ 8) (h : ¬ (1 ≤ c5 ∧ c5 ≤ 16)) : Calls Try.prog 26 #[.agg #[.int .i64 c0, .int .i64 c1, .int .i64 c2, .int .i64 c3, .int .i64 c4, .int .i64 c5, .int .i64 c6]] w fun e w' => e = .returned (.bool false) ∧ w' = w.alloc (.cells #[.int .i64 c0, .int .i64 c1, .int .i64 c2, .int .i64 c3, .int .i64 c4, .int .i64 c5, .int .i64 c6] 23) := by
  have q2' : c2 < c1 := by omega
  clear q2
  obtain rfl | rfl | rfl | rfl := s
  all_goals
    by_cases h7 : 1 ≤ c5
    · have h8 : decide (c5 ≤ 16) = false := by simp; omega
      clear h
      go_enter Try.func26, Try.ntmps26
      dsimp only [List.append]
      go_wp2
      go_ret
      exact ⟨rfl, rfl⟩
    · have h8 : decide (1 ≤ c5) = false := by simp; omega
      clear h h7
      go_enter Try.func26, Try.ntmps26
      dsimp only [List.append]
      go_wp2
      go_ret
      exact ⟨rfl, rfl⟩
set_option maxHeartbeats 2000000 in
theorem wdrgood_6 (c0 c1 c2 c3 c4 c5 c6 : Int) (w : World) (p0 : 1 ≤ c0) (q0 : c0 ≤ 8) (p1 : 2 ≤ c1) (q1 : c1 ≤ 64) (p2 : 1 ≤ c2) (q2 : c2 ≤ c1 - 1) (s : c3 = 1 ∨ c3 = 2 ∨ c3 = 4 ∨ c3 = 8) (p4 : 1 ≤ c4) (q4 : c4 ≤ 8) (p5 : 1 ≤ c5) (q5 : c5 ≤ 16) (h : ¬ (1 ≤ c6 ∧ c6 ≤ 16)) : Calls Try.prog 26 #[.agg #[.int .i64 c0, .int .i64 c1, .int .i64 c2, .int .i64 c3, .int .i64 c4, .int .i64 c5, .int .i64 c6]] w fun e w' => e = .returned (.bool false) ∧ w' = w.alloc (.cells #[.int .i64 c0, .int .i64 c1, .int .i64 c2, .int .i64 c3, .int .i64 c4, .int .i64 c5, .int .i64 c6] 23) := by
  have q2' : c2 < c1 := by omega
  clear q2
  obtain rfl | rfl | rfl | rfl := s
  all_goals
    by_cases h7 : 1 ≤ c6
    · have h8 : decide (c6 ≤ 16) = false := by simp; omega
      clear h
      go_enter Try.func26, Try.ntmps26
      dsimp only [List.append]
      go_wp2
      go_ret
      exact ⟨rfl, rfl⟩
    · have h8 : decide (1 ≤ c6) = false := by simp; omega
      clear h h7
      go_enter Try.func26, Try.ntmps26
      dsimp only [List.append]
      go_wp2
      go_ret
      exact ⟨rfl, rfl⟩
set_option maxHeartbeats 2000000 in
theorem wdrgood_7 (c0 c1 c2 c3 c4 c5 c6 : Int) (w : World) (p0 : 1 ≤ c0) (q0 : c0 ≤ 8) (p1 : 2 ≤ c1) (q1 : c1 ≤ 64) (p2 : 1 ≤ c2) (q2 : c2 ≤ c1 - 1) (s : c3 = 1 ∨ c3 = 2 ∨ c3 = 4 ∨ c3 = 8) (p4 : 1 ≤ c4) (q4 : c4 ≤ 8) (p5 : 1 ≤ c5) (q5 : c5 ≤ 16) (p6 : 1 ≤ c6) (q6 : c6 ≤ 16) : Calls Try.prog 26 #[.agg #[.int .i64 c0, .int .i64 c1, .int .i64 c2, .int .i64 c3, .int .i64 c4, .int .i64 c5, .int .i64 c6]] w fun e w' => e = .returned (.bool true) ∧ w' = w.alloc (.cells #[.int .i64 c0, .int .i64 c1, .int .i64 c2, .int .i64 c3, .int .i64 c4, .int .i64 c5, .int .i64 c6] 23) := by
  have q2' : c2 < c1 := by omega
  clear q2
  obtain rfl | rfl | rfl | rfl := s
  all_goals
    go_enter Try.func26, Try.ntmps26
    dsimp only [List.append]
    go_wp2
    go_ret
    exact ⟨rfl, rfl⟩
set_option maxHeartbeats 2000000 in
theorem wdrgood_any (c0 c1 c2 c3 c4 c5 c6 : Int) (w : World) : Calls Try.prog 26 #[.agg #[.int .i64 c0, .int .i64 c1, .int .i64 c2, .int .i64 c3, .int .i64 c4, .int .i64 c5, .int .i64 c6]] w fun e w' => e = .returned (.bool (goodB c0 c1 c2 c3 c4 c5 c6)) ∧ w' = w.alloc (.cells #[.int .i64 c0, .int .i64 c1, .int .i64 c2, .int .i64 c3, .int .i64 c4, .int .i64 c5, .int .i64 c6] 23) := by
  by_cases h0 : 1 ≤ c0 ∧ c0 ≤ 8
  rotate_left
  · have e : goodB c0 c1 c2 c3 c4 c5 c6 = false := by unfold goodB; simp only [decide_eq_false_iff_not]; omega
    rw [e]; exact wdrgood_0 c0 c1 c2 c3 c4 c5 c6 w h0
  by_cases h1 : 2 ≤ c1 ∧ c1 ≤ 64
  rotate_left
  · have e : goodB c0 c1 c2 c3 c4 c5 c6 = false := by unfold goodB; simp only [decide_eq_false_iff_not]; omega
    rw [e]; exact wdrgood_1 c0 c1 c2 c3 c4 c5 c6 w h0.1 h0.2 h1
  by_cases h2 : 1 ≤ c2 ∧ c2 ≤ c1 - 1
  rotate_left
  · have e : goodB c0 c1 c2 c3 c4 c5 c6 = false := by unfold goodB; simp only [decide_eq_false_iff_not]; omega
    rw [e]; exact wdrgood_2 c0 c1 c2 c3 c4 c5 c6 w h0.1 h0.2 h1.1 h1.2 h2
  by_cases h3 : c3 = 1 ∨ c3 = 2 ∨ c3 = 4 ∨ c3 = 8
  rotate_left
  · have e : goodB c0 c1 c2 c3 c4 c5 c6 = false := by unfold goodB; simp only [decide_eq_false_iff_not]; omega
    rw [e]; exact wdrgood_3 c0 c1 c2 c3 c4 c5 c6 w h0.1 h0.2 h1.1 h1.2 h2.1 h2.2 h3
  by_cases h4 : 1 ≤ c4 ∧ c4 ≤ 8
  rotate_left
  · have e : goodB c0 c1 c2 c3 c4 c5 c6 = false := by unfold goodB; simp only [decide_eq_false_iff_not]; omega
    rw [e]; exact wdrgood_4 c0 c1 c2 c3 c4 c5 c6 w h0.1 h0.2 h1.1 h1.2 h2.1 h2.2 h3 h4
  by_cases h5 : 1 ≤ c5 ∧ c5 ≤ 16
  rotate_left
  · have e : goodB c0 c1 c2 c3 c4 c5 c6 = false := by unfold goodB; simp only [decide_eq_false_iff_not]; omega
    rw [e]; exact wdrgood_5 c0 c1 c2 c3 c4 c5 c6 w h0.1 h0.2 h1.1 h1.2 h2.1 h2.2 h3 h4.1 h4.2 h5
  by_cases h6 : 1 ≤ c6 ∧ c6 ≤ 16
  rotate_left
  · have e : goodB c0 c1 c2 c3 c4 c5 c6 = false := by unfold goodB; simp only [decide_eq_false_iff_not]; omega
    rw [e]; exact wdrgood_6 c0 c1 c2 c3 c4 c5 c6 w h0.1 h0.2 h1.1 h1.2 h2.1 h2.2 h3 h4.1 h4.2 h5.1 h5.2 h6
  have e : goodB c0 c1 c2 c3 c4 c5 c6 = true := by unfold goodB; simp only [decide_eq_true_eq]; omega
  rw [e]; exact wdrgood_7 c0 c1 c2 c3 c4 c5 c6 w h0.1 h0.2 h1.1 h1.2 h2.1 h2.2 h3 h4.1 h4.2 h5.1 h5.2 h6.1 h6.2
end Go.Proofs.Ytnocekhgabgffaa
end
section
namespace Go.Proofs.Ytnocekhgabgffaa
open Go.RowKit
set_option linter.unusedVariables false
set_option maxHeartbeats 1000000

set_option maxRecDepth 100000
attribute [local go_sem ↓] append_appS copy_copS clear_clrS make_mkS slice_slS lookup_lookS mput_mputS del_mdelS cell_row frozen_row heap_drew heap_drewN heap_alloc heap_past heap_setCell heap_putRow heap_setB loadEv storeEv loadBe storeBe loadSp storeSp loadNw storeNw loadLine storeLine evc_kd evc_co evc_li evc_wo evc_va bec_fl bec_li bec_wo bec_va nwC_0 nwC_1 spC_0 spC_1
attribute [local go_sem] rowCell_some rowFrozen_some rowHas_some rowIn_some rowPart_full rowPart_lit rowPut_full rowPut_lit rowSet_some size_putRow size_setB run_loadS run_storeS run_appS run_copS run_clrS run_mkS run_slS run_lookS run_mputS run_mdelS loadW_at storeW_at fit_all fit_le one_int one_bool one_pointer one_slice allOne_list putRow_new ne_size1 ne_size2 ne_size3 ne_size4 wideEv wideBe wideSp wideNw wideLine evc_size evc_one evc_ne evc_lit evc_z fold_evc bec_size bec_one bec_lit bec_ne bec_at bec_in spC_size spC_one nwC_size nwC_one nwC_ne nwC_set0 nwC_set1 nwC_lit bec_set0 bec_set1 bec_set2 bec_set3 spC_set0 spC_set1 spC_lit fold_spC spC_ne fold_nwC fold_bec fold_at vs_size vs_one ic_size ic_get
attribute [local simp ↓] heap_drew heap_drewN heap_alloc heap_past heap_setCell heap_putRow heap_setB
attribute [local simp] rowCell_some rowFrozen_some rowHas_some rowIn_some rowPart_full rowPart_lit rowPut_full rowPut_lit rowSet_some size_putRow size_setB fit_all putRow_new ne_size1 ne_size2 ne_size3 ne_size4 evc_size bec_size spC_size nwC_size vs_size fit_le
attribute [local go_sem ↓] loadIt storeIt loadSn storeSn loadPl storePl loadCf storeCf
attribute [local go_sem] wideIt wideSn widePl wideCf lit8
/-- What is made ahead of the loop: the bus, its lists in whatever order. -/
structure MadeR (m n v : Nat) (c3 c4 c5 c6 : Int) (w0 w : World) (q bl bc bp : Nat) : Prop where
  hq : w.heap[q]? = some (.cells #[.int .i64 m, .int .i64 n, .int .i64 v, .int .i64 c3, .int .i64 c4, .int .i64 c5, .int .i64 c6, .slice (some ⟨bl, 0, none⟩) n n, .slice none 0 0, .slice (some ⟨bc, 0, none⟩) m m, .slice (some ⟨bp, 0, none⟩) n n] 59 (0, 0))
  hl : w.heap[bl]? = some (.cells (bk (List.replicate (n * 8) 0) []) 44 (0, 0))
  hc : w.heap[bc]? = some (.cells (sq Ci.enc (List.replicate m ciZ) []) 82 (0, 0))
  hp : w.heap[bp]? = some (.cells (ic (List.replicate n 0)) 3 (0, 0))
  ch : Chg [] w0 w
  nd : [q, bl, bp, bc].Nodup
  ge : ∀ b ∈ [q, bl, bp, bc], w0.heap.size ≤ b
/-- A new bus of the document's. -/
def NewTo18 (z : Cf) (W : World) (R : Rb) (e : Ending) (w' : World) : Prop :=
  ∃ q bl kb bp bc cp xs, e = .returned (.tuple #[.pointer (some ⟨q, 0, none⟩), .int .i64 0]) ∧ DbP z w' q bl kb bp bc cp [] xs R ∧ (∀ b ∈ [q, bl, kb, bp, bc], W.heap.size ≤ b) ∧ Chg [] W w'
theorem made4 (w : World) (a b c d : Obj) : (((((w.alloc a).alloc b).alloc c).alloc d).drew.heap[w.heap.size]? = some a ∧ ((((w.alloc a).alloc b).alloc c).alloc d).drew.heap[w.heap.size + 1]? = some b) ∧ (((((w.alloc a).alloc b).alloc c).alloc d).drew.heap[w.heap.size + 1 + 1]? = some c ∧ ((((w.alloc a).alloc b).alloc c).alloc d).drew.heap[w.heap.size + 1 + 1 + 1]? = some d) := by
  have s1 : (w.alloc a).heap.size = w.heap.size + 1 := by simp
  have s2 : ((w.alloc a).alloc b).heap.size = w.heap.size + 1 + 1 := by simp
  have s3 : (((w.alloc a).alloc b).alloc c).heap.size = w.heap.size + 1 + 1 + 1 := by simp
  have h1 := (MapKept.heap_alloc w a).1
  have h2 := (MapKept.heap_alloc (w.alloc a) b).1
  have h3 := (MapKept.heap_alloc ((w.alloc a).alloc b) c).1
  have h4 := (MapKept.heap_alloc (((w.alloc a).alloc b).alloc c) d).1
  rw [s1] at h2
  rw [s2] at h3
  rw [s3] at h4
  have c1 : Chg [] (w.alloc a) ((((w.alloc a).alloc b).alloc c).alloc d).drew := ((((Chg.refl [] _).alloc _).alloc _).alloc _).drew
  have c2 : Chg [] ((w.alloc a).alloc b) ((((w.alloc a).alloc b).alloc c).alloc d).drew := (((Chg.refl [] _).alloc _).alloc _).drew
  have c3 : Chg [] (((w.alloc a).alloc b).alloc c) ((((w.alloc a).alloc b).alloc c).alloc d).drew := ((Chg.refl [] _).alloc _).drew
  refine ⟨⟨c1.keep h1 (by simp), c2.keep h2 (by simp)⟩, c3.keep h3 (by simp), ?_⟩
  rw [heap_drew]; exact h4
theorem ln_zeros18 {n k : Nat} (hk : k < n) : ln (List.replicate (n * 8) (0 : Int)) k = zln := by
  unfold ln
  rw [List.drop_replicate, List.take_replicate, show min 8 (n * 8 - k * 8) = 8 by omega]; rfl
theorem ln_imgX {n v k l : Nat} {img : List Int} (hil : img.length = k * 8) (hk : k = 0 ∨ k = n) (hv : v ≤ n) (hl : l < n) : ln (imgX n v img) l = if v ≤ l ∧ l < k then ln img l else zln := by
  have hz : ∀ j, j < n → ln (List.replicate (n * 8) (0 : Int)) j = zln := fun j hj => ln_zeros18 hj
  unfold imgX
  have hs : (splice (List.replicate (n * 8) (0 : Int)) 0 img).length = n * 8 := spl_len (by rcases hk with rfl | rfl <;> omega)
  by_cases h : l < v
  · rw [if_neg (by omega), ln_forget_lt _ _ _ h (by omega)]; rfl
  · rw [ln_forget_ge _ _ _ (by omega) (by omega)]
    rcases hk with rfl | rfl
    · have : img = [] := List.eq_nil_of_length_eq_zero (by omega)
      subst this
      rw [if_neg (by omega)]
      have he : splice (List.replicate (n * 8) (0 : Int)) 0 [] = List.replicate (n * 8) 0 := by simp [splice]
      rw [he]; exact hz l hl
    · rw [if_pos (by omega)]
      congr 1
      exact splice_all _ _ (by rw [List.length_replicate]; exact hil)
theorem rnew_0 (A : Option Addr) (ck : Nat) (img : List Int) (m n v : Nat) (c3 c4 c5 c6 : Int) (hg : goodB m n v c3 c4 c5 c6 = true) (W : World) (hA : Sl W 8 A 0 (img.map (Value.int .u64))) :
    Calls Try.prog 18 #[.agg #[.int .i64 m, .int .i64 n, .int .i64 v, .int .i64 c3, .int .i64 c4, .int .i64 c5, .int .i64 c6], .slice A 0 ck] W (NewTo18 ⟨m, n, v, c3, c4, c5, c6⟩ W (rb1 n m v (imgX n v img))) := by
  have hgd := fun w => wdrgood_any m n v c3 c4 c5 c6 w
  rw [hg] at hgd
  have hg' := of_decide_eq_true hg
  obtain ⟨a1, a2, a3, a4, a5, a6, _⟩ := hg'
  have hm8 : m ≤ 8 := by omega
  have hn64 : n ≤ 64 := by omega
  have hmp := fun w => run_make_ints w n hn64
  have hml := fun w => run_make_lines w n hn64
  have hmc := fun w => run_make_ci w m (by omega)
  have hil : img.length = 0 * 8 := by simpa using hA.1
  have HIL := Lib.hid hil
  have HA := Lib.hid hA
  clear hg hil hA
  go_enter Try.func18, Try.ntmps18
  obtain ⟨n1, n2⟩ := one_new W (.cells #[.int .i64 m, .int .i64 n, .int .i64 v, .int .i64 c3, .int .i64 c4, .int .i64 c5, .int .i64 c6] 23)
  have N2 := Lib.hid n2
  clear n2
  go_upto_region 1 with fail
  generalize W.alloc (.cells #[.int .i64 m, .int .i64 n, .int .i64 v, .int .i64 c3, .int .i64 c4, .int .i64 c5, .int .i64 c6] 23) = w1 at *
  generalize hp : W.heap.size = p at *
  have HP := Lib.hid hp
  clear hp
  go_upto_region 3 with (go_at_call 26; refine (hgd _).mono ?_; rintro e w' ⟨rfl, hw'⟩; have cw : Chg [] w1 w' := by { rw [hw']; exact (Chg.refl [] w1).alloc _ }; clear hw'; have n3 := cw.keep n1 (by simp); have CW := Lib.hid cw; clear cw)
  have N3 := Lib.hid (N2.out.trans CW.out)
  clear N2 CW n1 hgd
  generalize w' = w2 at *
  go_cut [6] (fun s6 wx => ∃ q bl bc bp, s6 = .pointer (some ⟨q, 0, none⟩) ∧ MadeR m n v c3 c4 c5 c6 w2 wx q bl bc bp)
  case first =>
    go_region
    all_goals
      go_wp2_with fail
      go_meet
      case rel =>
        refine ⟨_, _, _, _, rfl, ⟨(made4 w2 _ _ _ _).2.2, ?_, ?_, ?_, (((((Chg.refl [] w2).alloc _).alloc _).alloc _).alloc _).drew, by simp only [List.nodup_cons, List.mem_cons, List.not_mem_nil, or_false, not_or, List.nodup_nil, not_false_eq_true, and_true]; omega, by simp; omega⟩⟩
        all_goals first | exact (made4 w2 _ _ _ _).1.1 | exact (made4 w2 _ _ _ _).1.2 | exact (made4 w2 _ _ _ _).2.1
  case rest =>
  obtain ⟨q, bl, bc, bp, rfl, HM⟩ := hcut
  have n4 := HM.ch.keep n3 (by simp)
  have HPO := Lib.hid (lt_heap n3)
  have MR := Lib.hid HM
  clear n3 HM hmp hml hmc
  generalize hw3 : wc = w3 at *
  clear hw3
  have nd := MR.out.nd
  simp only [List.nodup_cons, List.mem_cons, List.not_mem_nil, or_false, not_or, List.nodup_nil, not_false_eq_true, and_true] at nd
  obtain ⟨⟨d1, d2, d3⟩, ⟨d4, d5⟩, d6⟩ := nd
  have D1 := Lib.hid d1
  have D2 := Lib.hid d2
  have D3 := Lib.hid d3
  have D4 := Lib.hid d4
  have D5 := Lib.hid d5
  have D6 := Lib.hid d6
  have hne : p ≠ bl := by have := HPO.out; have := MR.out.ge bl (by simp); omega
  have HNE := Lib.hid hne
  clear d1 d2 d3 d4 d5 d6 hne
  go_wp2_with fail
  go_loopw [7] (fun i wr => ∃ (j : Nat) (X : List Int), v ≤ j ∧ (j = v ∨ j ≤ 0) ∧ i = .int .i64 j ∧ X.length = n * 8 ∧ (∀ l, l < n → ln X l = if v ≤ l ∧ l < j then ln img l else zln) ∧ wr.heap[bl]? = some (.cells (bk X []) 44 (0, 0)) ∧ Chg [bl] w3 wr) (fun i _ => n - (intOf i).toNat)
  case atStart => exact ⟨v, _, Nat.le_refl _, .inl rfl, rfl, by simp, fun l hl => by rw [if_neg (by omega)]; exact ln_zeros18 hl, MR.out.hl, Chg.refl _ _⟩
  case round =>
    obtain ⟨j, X, hvj, hj, rfl, hX, hl, hb, hc⟩ := hrel
    have XL := Lib.hid hX
    have LS := Lib.hid hl
    have HC := Lib.hid hc
    have HVJ := Lib.hid hvj
    have HJ := Lib.hid hj
    have hq := hc.keep MR.out.hq (by simpa using D1.out)
    clear hvj hj hc hl n4
    have HBL := Lib.hid hb
    have g1 : ¬ (j : Int) < (0 : Int) := by have := HJ.out; have := HVJ.out; omega
    have hXe : X = imgX n v img := by
      refine lines_ext (n := n) XL.out (imgX_len (by rw [HIL.out]; omega) (by omega)) (fun l hl => ?_)
      rw [LS.out l hl, ln_imgX HIL.out (.inl rfl) (by omega) hl]
      have := HJ.out
      have := HVJ.out
      by_cases h : v ≤ l ∧ l < j
      · rw [if_pos h, if_pos (by omega)]
      · rw [if_neg h, if_neg (by omega)]
    have HXE := Lib.hid hXe
    obtain ⟨g, cap, r, w6, e6, hg6, hge6, cg6⟩ := clone_any wr (some ⟨bl, 0, none⟩) n n X (Sl.of_bk hb hX) (by omega)
    have hq6 := cg6.keep hq (by simp)
    have oq := old hq
    have HG6 := Lib.hid (And.intro hg6 (And.intro hge6 cg6))
    clear hXe hX hb hg6 hge6 cg6
    go_wp2_with fail
    go_ret2
    obtain ⟨hg6, hge6, cg6⟩ := HG6.out
    have c7 : Chg [q] w6 (w6.setCell ⟨q, 8, none⟩ (.slice (some ⟨g, 0, none⟩) n cap)) := (Chg.refl [q] w6).setCell _ _ _ (.inl (by simp))
    have hcw : Chg [bl] w3 w6 := HC.out.trans (cg6.mono (by simp))
    have cA : Chg [q, bl] w3 (w6.setCell ⟨q, 8, none⟩ (.slice (some ⟨g, 0, none⟩) n cap)) := (hcw.mono (by simp)).trans (c7.mono (by simp))
    have oo : ∀ b, b ∈ [q, bl, bp, bc] → b < wr.heap.size := fun b hb => by
      have h1 : b < w3.heap.size := by
        simp only [List.mem_cons, List.not_mem_nil, or_false] at hb
        rcases hb with rfl | rfl | rfl | rfl
        · exact lt_heap MR.out.hq
        · exact lt_heap MR.out.hl
        · exact lt_heap MR.out.hp
        · exact lt_heap MR.out.hc
      have := HC.out.size
      omega
    have o1 := oo q (by simp)
    have o2 := oo bl (by simp)
    have o3 := oo bp (by simp)
    have o4 := oo bc (by simp)
    have e1 := D1.out; have e2 := D2.out; have e3 := D3.out; have e4 := D4.out; have e5 := D5.out; have e6' := D6.out
    have hqF : (w6.setCell ⟨q, 8, none⟩ (.slice (some ⟨g, 0, none⟩) n cap)).heap[q]? = some (.cells (dbc ⟨m, n, v, c3, c4, c5, c6⟩ bl g bc bp cap) 59 (0, 0)) := by
      rw [heap_setCell, if_pos rfl, hq6, rowSet_some]; rfl
    refine ⟨q, bl, g, bp, bc, cap, List.replicate m ciZ, rfl, ⟨hqF, ?_, ⟨r, ?_⟩, ?_, ?_, by simp, by simp [rb1], fun i x c h1 h2 => ?_, ?_, by simp, by simp⟩, ?_, ?_⟩
    · rw [heap_setCell, if_neg (by omega)]
      have h9 := cg6.keep HBL.out (by simp)
      rw [h9, HXE.out]; rfl
    · rw [heap_setCell, if_neg (by omega), hg6, HXE.out]; rfl
    · exact cA.keep MR.out.hp (by simp; omega)
    · exact cA.keep MR.out.hc (by simp; omega)
    · have hx := List.eq_of_mem_replicate (List.mem_of_getElem? h1)
      have hc0 : c = rcZ := List.eq_of_mem_replicate (List.mem_of_getElem? h2)
      subst hx hc0
      exact dcm_zero _
    · simp only [List.nodup_cons, List.mem_cons, List.not_mem_nil, or_false, not_or, List.nodup_nil, not_false_eq_true, and_true]
      omega
    · have hW2 := N3.out.size
      have h2 := MR.out.ge
      have h3 := MR.out.ch.size
      have h4 := HC.out.size
      intro b hb
      simp only [List.mem_cons, List.not_mem_nil, or_false] at hb
      rcases hb with rfl | rfl | rfl | rfl | rfl
      · have := h2 b (by simp); omega
      · have := h2 b (by simp); omega
      · omega
      · have := h2 b (by simp); omega
      · have := h2 b (by simp); omega
    · exact (N3.out.trans MR.out.ch).trans' cA (fun y hy => .inr (by
        simp only [List.mem_cons, List.not_mem_nil, or_false] at hy
        have hW2 := N3.out.size
        have h2 := MR.out.ge
        rcases hy with rfl | rfl
        · have := h2 y (by simp); omega
        · have := h2 y (by simp); omega))
theorem rnew_n (A : Option Addr) (ck : Nat) (img : List Int) (m n v : Nat) (c3 c4 c5 c6 : Int) (hg : goodB m n v c3 c4 c5 c6 = true) (W : World) (hA : Sl W 8 A n (img.map (Value.int .u64))) :
    Calls Try.prog 18 #[.agg #[.int .i64 m, .int .i64 n, .int .i64 v, .int .i64 c3, .int .i64 c4, .int .i64 c5, .int .i64 c6], .slice A n ck] W (NewTo18 ⟨m, n, v, c3, c4, c5, c6⟩ W (rb1 n m v (imgX n v img))) := by
  have hgd := fun w => wdrgood_any m n v c3 c4 c5 c6 w
  rw [hg] at hgd
  have hg' := of_decide_eq_true hg
  obtain ⟨a1, a2, a3, a4, a5, a6, _⟩ := hg'
  have hm8 : m ≤ 8 := by omega
  have hn64 : n ≤ 64 := by omega
  have hmp := fun w => run_make_ints w n hn64
  have hml := fun w => run_make_lines w n hn64
  have hmc := fun w => run_make_ci w m (by omega)
  have hil : img.length = n * 8 := by simpa using hA.1
  have HIL := Lib.hid hil
  have HA := Lib.hid hA
  clear hg hil hA
  go_enter Try.func18, Try.ntmps18
  obtain ⟨n1, n2⟩ := one_new W (.cells #[.int .i64 m, .int .i64 n, .int .i64 v, .int .i64 c3, .int .i64 c4, .int .i64 c5, .int .i64 c6] 23)
  have N2 := Lib.hid n2
  clear n2
  go_upto_region 1 with fail
  generalize W.alloc (.cells #[.int .i64 m, .int .i64 n, .int .i64 v, .int .i64 c3, .int .i64 c4, .int .i64 c5, .int .i64 c6] 23) = w1 at *
  generalize hp : W.heap.size = p at *
  have HP := Lib.hid hp
  clear hp
  have hk0 : ((n : Int) != 0) = true := by simp; omega
  go_upto_region 3 with (go_at_call 26; refine (hgd _).mono ?_; rintro e w' ⟨rfl, hw'⟩; have cw : Chg [] w1 w' := by { rw [hw']; exact (Chg.refl [] w1).alloc _ }; clear hw'; have n3 := cw.keep n1 (by simp); have CW := Lib.hid cw; clear cw)
  have N3 := Lib.hid (N2.out.trans CW.out)
  clear N2 CW n1 hgd
  generalize w' = w2 at *
  go_cut [6] (fun s6 wx => ∃ q bl bc bp, s6 = .pointer (some ⟨q, 0, none⟩) ∧ MadeR m n v c3 c4 c5 c6 w2 wx q bl bc bp)
  case first =>
    go_region
    all_goals
      go_wp2_with fail
      go_meet
      case rel =>
        refine ⟨_, _, _, _, rfl, ⟨(made4 w2 _ _ _ _).2.2, ?_, ?_, ?_, (((((Chg.refl [] w2).alloc _).alloc _).alloc _).alloc _).drew, by simp only [List.nodup_cons, List.mem_cons, List.not_mem_nil, or_false, not_or, List.nodup_nil, not_false_eq_true, and_true]; omega, by simp; omega⟩⟩
        all_goals first | exact (made4 w2 _ _ _ _).1.1 | exact (made4 w2 _ _ _ _).1.2 | exact (made4 w2 _ _ _ _).2.1
  case rest =>
  obtain ⟨q, bl, bc, bp, rfl, HM⟩ := hcut
  have n4 := HM.ch.keep n3 (by simp)
  have HPO := Lib.hid (lt_heap n3)
  have MR := Lib.hid HM
  clear n3 HM hmp hml hmc
  generalize hw3 : wc = w3 at *
  clear hw3
  have nd := MR.out.nd
  simp only [List.nodup_cons, List.mem_cons, List.not_mem_nil, or_false, not_or, List.nodup_nil, not_false_eq_true, and_true] at nd
  obtain ⟨⟨d1, d2, d3⟩, ⟨d4, d5⟩, d6⟩ := nd
  have D1 := Lib.hid d1
  have D2 := Lib.hid d2
  have D3 := Lib.hid d3
  have D4 := Lib.hid d4
  have D5 := Lib.hid d5
  have D6 := Lib.hid d6
  have hne : p ≠ bl := by have := HPO.out; have := MR.out.ge bl (by simp); omega
  have HNE := Lib.hid hne
  clear d1 d2 d3 d4 d5 d6 hne
  go_wp2_with fail
  go_loopw [7] (fun i wr => ∃ (j : Nat) (X : List Int), v ≤ j ∧ (j = v ∨ j ≤ n) ∧ i = .int .i64 j ∧ X.length = n * 8 ∧ (∀ l, l < n → ln X l = if v ≤ l ∧ l < j then ln img l else zln) ∧ wr.heap[bl]? = some (.cells (bk X []) 44 (0, 0)) ∧ Chg [bl] w3 wr) (fun i _ => n - (intOf i).toNat)
  case atStart => exact ⟨v, _, Nat.le_refl _, .inl rfl, rfl, by simp, fun l hl => by rw [if_neg (by omega)]; exact ln_zeros18 hl, MR.out.hl, Chg.refl _ _⟩
  case round =>
    obtain ⟨j, X, hvj, hj, rfl, hX, hl, hb, hc⟩ := hrel
    have XL := Lib.hid hX
    have LS := Lib.hid hl
    have HC := Lib.hid hc
    have HVJ := Lib.hid hvj
    have HJ := Lib.hid hj
    have hq := hc.keep MR.out.hq (by simpa using D1.out)
    clear hvj hj hc hl n4
    have HBL := Lib.hid hb
    by_cases hlt : j < n
    · have g0 : (0 : Int) ≤ (j : Int) := by omega
      have g1 : (j : Int) < (n : Int) := by omega
      obtain ⟨bi, oi, hAe⟩ := HA.out.addr (by omega)
      have hsl := (HA.out.chg ((N3.out.trans MR.out.ch)) (by simp))
      rw [hAe] at hsl
      obtain ⟨cs0, t0, ff0, hbi0, _⟩ := hsl.line (i := j) hlt
      have hsl0 := HA.out
      rw [hAe] at hsl0
      obtain ⟨cs', t', ff', hb0', _⟩ := hsl0.line (i := j) hlt
      have hbin : bi ≠ bl := by have h1 := lt_heap hb0'; have h2 := MR.out.ge bl (by simp); have h3 := N3.out.size; omega
      have hsw : Sl wr 8 (some ⟨bi, oi, none⟩) n (img.map (Value.int .u64)) := hsl.chg HC.out (fun a ha => by cases ha; simpa using hbin)
      obtain ⟨cs, t, ff, hbi, hi, hpp, hl8⟩ := hsw.line (i := j) hlt
      have ft2 : Fit (j * 8) 8 X.length := by unfold Fit; omega
      have q3 := rowHas_bk ft2 [] 44
      have q4 := fun f => rowPut_bk (xs := X) (l := ln img j) (i := j) (by rw [hl8]; exact ft2) [] 44 f
      have hc8 : (vs (ln img j)).size = 8 := by rw [vs_size, hl8]
      have HC8 := Lib.hid hc8
      have FT := Lib.hid ft2
      have HL8 := Lib.hid hl8
      have JN := Lib.hid hlt
      clear ft2 hl8 hlt hX hsl hsl0 hsw hbi0 hb0' hbin
      subst hAe
      go_upto_region 7 with fail
      go_region
      have f1 : (putRow wr.drew bl (j * 8) (vs (ln img j))).heap[bl]? = some (.cells (bk (lnPut X j (ln img j)) []) 44 (0, 0)) := by rw [heap_putRow _ _ _ _ _ (by rw [HC8.out, heap_drew, hb]; exact q3), if_pos rfl, heap_drew, hb, q4]
      have cf : Chg [bl] wr (putRow wr.drew bl (j * 8) (vs (ln img j))) := (Chg.refl [bl] wr).drew.putRow _ _ _ (.inl (by simp))
      have C2 := Lib.hid (HC.out.trans cf)
      have F1 := Lib.hid f1
      clear hb q3 q4 hc8 hq cf f1 hbi hi hpp HBL
      generalize putRow wr.drew bl (j * 8) (vs (ln img j)) = w5 at *
      go_wp2_with fail
      go_roundw
      case measure =>
        show n - ((j : Int) + 1).toNat < n - ((j : Int)).toNat
        have := JN.out
        omega
      case rel =>
        refine ⟨j + 1, lnPut X j (ln img j), by have := HVJ.out; omega, .inr JN.out, by go_num, by rw [lnPut_length _ _ _ FT.out HL8.out, XL.out], fun l hl => ?_, F1.out, C2.out⟩
        have := HVJ.out
        by_cases hlj : l = j
        · subst hlj; rw [ln_put_same _ _ _ FT.out HL8.out, if_pos (by omega)]
        · rw [ln_put_other _ _ _ _ FT.out HL8.out (Ne.symm hlj), LS.out l hl]
          by_cases h : v ≤ l ∧ l < j
          · rw [if_pos h, if_pos (by omega)]
          · rw [if_neg h, if_neg (by omega)]
    · have g1 : ¬ (j : Int) < (n : Int) := by have := HJ.out; have := HVJ.out; omega
      have hXe : X = imgX n v img := by
        refine lines_ext (n := n) XL.out (imgX_len (by rw [HIL.out]; omega) (by omega)) (fun l hl => ?_)
        rw [LS.out l hl, ln_imgX HIL.out (.inr rfl) (by omega) hl]
        have := HJ.out
        have := HVJ.out
        by_cases h : v ≤ l ∧ l < j
        · rw [if_pos h, if_pos (by omega)]
        · rw [if_neg h, if_neg (by omega)]
      have HXE := Lib.hid hXe
      obtain ⟨g, cap, r, w6, e6, hg6, hge6, cg6⟩ := clone_any wr (some ⟨bl, 0, none⟩) n n X (Sl.of_bk hb hX) (by omega)
      have hq6 := cg6.keep hq (by simp)
      have oq := old hq
      have HG6 := Lib.hid (And.intro hg6 (And.intro hge6 cg6))
      clear hXe hX hb hg6 hge6 cg6
      go_wp2_with fail
      go_ret2
      obtain ⟨hg6, hge6, cg6⟩ := HG6.out
      have c7 : Chg [q] w6 (w6.setCell ⟨q, 8, none⟩ (.slice (some ⟨g, 0, none⟩) n cap)) := (Chg.refl [q] w6).setCell _ _ _ (.inl (by simp))
      have hcw : Chg [bl] w3 w6 := HC.out.trans (cg6.mono (by simp))
      have cA : Chg [q, bl] w3 (w6.setCell ⟨q, 8, none⟩ (.slice (some ⟨g, 0, none⟩) n cap)) := (hcw.mono (by simp)).trans (c7.mono (by simp))
      have oo : ∀ b, b ∈ [q, bl, bp, bc] → b < wr.heap.size := fun b hb => by
        have h1 : b < w3.heap.size := by
          simp only [List.mem_cons, List.not_mem_nil, or_false] at hb
          rcases hb with rfl | rfl | rfl | rfl
          · exact lt_heap MR.out.hq
          · exact lt_heap MR.out.hl
          · exact lt_heap MR.out.hp
          · exact lt_heap MR.out.hc
        have := HC.out.size
        omega
      have o1 := oo q (by simp)
      have o2 := oo bl (by simp)
      have o3 := oo bp (by simp)
      have o4 := oo bc (by simp)
      have e1 := D1.out; have e2 := D2.out; have e3 := D3.out; have e4 := D4.out; have e5 := D5.out; have e6' := D6.out
      have hqF : (w6.setCell ⟨q, 8, none⟩ (.slice (some ⟨g, 0, none⟩) n cap)).heap[q]? = some (.cells (dbc ⟨m, n, v, c3, c4, c5, c6⟩ bl g bc bp cap) 59 (0, 0)) := by
        rw [heap_setCell, if_pos rfl, hq6, rowSet_some]; rfl
      refine ⟨q, bl, g, bp, bc, cap, List.replicate m ciZ, rfl, ⟨hqF, ?_, ⟨r, ?_⟩, ?_, ?_, by simp, by simp [rb1], fun i x c h1 h2 => ?_, ?_, by simp, by simp⟩, ?_, ?_⟩
      · rw [heap_setCell, if_neg (by omega)]
        have h9 := cg6.keep HBL.out (by simp)
        rw [h9, HXE.out]; rfl
      · rw [heap_setCell, if_neg (by omega), hg6, HXE.out]; rfl
      · exact cA.keep MR.out.hp (by simp; omega)
      · exact cA.keep MR.out.hc (by simp; omega)
      · have hx := List.eq_of_mem_replicate (List.mem_of_getElem? h1)
        have hc0 : c = rcZ := List.eq_of_mem_replicate (List.mem_of_getElem? h2)
        subst hx hc0
        exact dcm_zero _
      · simp only [List.nodup_cons, List.mem_cons, List.not_mem_nil, or_false, not_or, List.nodup_nil, not_false_eq_true, and_true]
        omega
      · have hW2 := N3.out.size
        have h2 := MR.out.ge
        have h3 := MR.out.ch.size
        have h4 := HC.out.size
        intro b hb
        simp only [List.mem_cons, List.not_mem_nil, or_false] at hb
        rcases hb with rfl | rfl | rfl | rfl | rfl
        · have := h2 b (by simp); omega
        · have := h2 b (by simp); omega
        · omega
        · have := h2 b (by simp); omega
        · have := h2 b (by simp); omega
      · exact (N3.out.trans MR.out.ch).trans' cA (fun y hy => .inr (by
          simp only [List.mem_cons, List.not_mem_nil, or_false] at hy
          have hW2 := N3.out.size
          have h2 := MR.out.ge
          rcases hy with rfl | rfl
          · have := h2 y (by simp); omega
          · have := h2 y (by simp); omega))
end Go.Proofs.Ytnocekhgabgffaa
end
section
namespace Go.Proofs.Ytnocekhgabgffaa
open Go.RowKit
set_option linter.unusedVariables false
set_option maxHeartbeats 1000000

set_option maxRecDepth 100000
attribute [local go_sem ↓] append_appS copy_copS clear_clrS make_mkS slice_slS lookup_lookS mput_mputS del_mdelS cell_row frozen_row heap_drew heap_drewN heap_alloc heap_past heap_setCell heap_putRow heap_setB loadEv storeEv loadBe storeBe loadSp storeSp loadNw storeNw loadLine storeLine evc_kd evc_co evc_li evc_wo evc_va bec_fl bec_li bec_wo bec_va nwC_0 nwC_1 spC_0 spC_1
attribute [local go_sem] rowCell_some rowFrozen_some rowHas_some rowIn_some rowPart_full rowPart_lit rowPut_full rowPut_lit rowSet_some size_putRow size_setB run_loadS run_storeS run_appS run_copS run_clrS run_mkS run_slS run_lookS run_mputS run_mdelS loadW_at storeW_at fit_all fit_le one_int one_bool one_pointer one_slice allOne_list putRow_new ne_size1 ne_size2 ne_size3 ne_size4 wideEv wideBe wideSp wideNw wideLine evc_size evc_one evc_ne evc_lit evc_z fold_evc bec_size bec_one bec_lit bec_ne bec_at bec_in spC_size spC_one nwC_size nwC_one nwC_ne nwC_set0 nwC_set1 nwC_lit bec_set0 bec_set1 bec_set2 bec_set3 spC_set0 spC_set1 spC_lit fold_spC spC_ne fold_nwC fold_bec fold_at vs_size vs_one ic_size ic_get
attribute [local simp ↓] heap_drew heap_drewN heap_alloc heap_past heap_setCell heap_putRow heap_setB
attribute [local simp] rowCell_some rowFrozen_some rowHas_some rowIn_some rowPart_full rowPart_lit rowPut_full rowPut_lit rowSet_some size_putRow size_setB fit_all putRow_new ne_size1 ne_size2 ne_size3 ne_size4 evc_size bec_size spC_size nwC_size vs_size fit_le
attribute [local go_sem ↓] loadIt storeIt loadSn storeSn loadPl storePl loadCf storeCf
attribute [local go_sem] wideIt wideSn widePl wideCf lit8
theorem rnew_bad18 (A : Option Addr) (k ck : Nat) (c0 c1 c2 c3 c4 c5 c6 : Int) (hg : goodB c0 c1 c2 c3 c4 c5 c6 = false ∨ (goodB c0 c1 c2 c3 c4 c5 c6 = true ∧ k ≠ 0 ∧ (k : Int) ≠ c1)) (W : World) : Calls Try.prog 18 #[.agg #[.int .i64 c0, .int .i64 c1, .int .i64 c2, .int .i64 c3, .int .i64 c4, .int .i64 c5, .int .i64 c6], .slice A k ck] W fun e w' => e = .returned (.tuple #[.pointer none, .int .i64 1]) ∧ Chg [] W w' := by
  have hgd := fun w => wdrgood_any c0 c1 c2 c3 c4 c5 c6 w
  go_enter Try.func18, Try.ntmps18
  obtain ⟨n1, n2⟩ := one_new W (.cells #[.int .i64 c0, .int .i64 c1, .int .i64 c2, .int .i64 c3, .int .i64 c4, .int .i64 c5, .int .i64 c6] 23)
  have N2 := Lib.hid n2
  clear n2
  go_upto_region 1 with fail
  generalize W.alloc (.cells #[.int .i64 c0, .int .i64 c1, .int .i64 c2, .int .i64 c3, .int .i64 c4, .int .i64 c5, .int .i64 c6] 23) = w1 at *
  generalize W.heap.size = p at *
  rcases hg with hg | ⟨hg, h0, h1⟩
  · rw [hg] at hgd
    go_wp2_with (go_at_call 26; refine (hgd _).mono ?_; rintro e w' ⟨rfl, hw'⟩; have cw : Chg [] w1 w' := by { rw [hw']; exact (Chg.refl [] w1).alloc _ }; clear hw'; have n3 := cw.keep n1 (by simp); have CW := Lib.hid cw; clear cw)
    go_ret2
    exact ⟨rfl, N2.out.trans CW.out⟩
  · rw [hg] at hgd
    have t1 : ((k : Int) != 0) = true := by simp; omega
    have t2 : ((k : Int) != c1) = true := by simpa using h1
    go_wp2_with (go_at_call 26; refine (hgd _).mono ?_; rintro e w' ⟨rfl, hw'⟩; have cw : Chg [] w1 w' := by { rw [hw']; exact (Chg.refl [] w1).alloc _ }; clear hw'; have n3 := cw.keep n1 (by simp); have CW := Lib.hid cw; clear cw)
    go_ret2
    exact ⟨rfl, N2.out.trans CW.out⟩
/-- What 'Check' tells. -/
def ckc (a e : Int) (L : Option Addr) (n1 c1 : Nat) (K : Option Addr) (n2 c2 : Nat) : Array Value := #[.int .i64 a, .int .i64 e, .slice L n1 c1, .slice K n2 c2]
theorem wideCk : Wide Try.prog 31 4 := ⟨⟨_, Try.underlying31, by rfl⟩, by kernel_rfl⟩
theorem loadCk (x : Value) : Instr.loadAt 31 x = loadS 31 4 x := rfl
theorem storeCk (x y : Value) : Instr.storeAt 31 x y = storeS 31 4 x y := rfl
theorem ckc_size (a e : Int) (L : Option Addr) (n1 c1 : Nat) (K : Option Addr) (n2 c2 : Nat) : (ckc a e L n1 c1 K n2 c2).size = 4 := by simp [ckc]
theorem ckc_one (a e : Int) (L : Option Addr) (n1 c1 : Nat) (K : Option Addr) (n2 c2 : Nat) : allOne (ckc a e L n1 c1 K n2 c2) := allOne_list _ rfl
attribute [local go_sem ↓] loadCk storeCk
attribute [local go_sem] wideCk
theorem results_ck18 {fn : Func} {p : Tmp} (h : fn.results = #[.cell p 31]) (tmps : Array Value) (w : World) (b : Nat) (C : Array Value) (hC : C.size = 4) (fr : Nat × Nat)
    (hp : tmps.getD p undef = .pointer (some ⟨b, 0, none⟩)) (hb : w.heap[b]? = some (.cells C 31 fr)) : (results fn tmps).run Try.prog w = .ok (.agg C) w := by
  have hp' : tmps[p]?.getD undef = .pointer (some ⟨b, 0, none⟩) := by simpa using hp
  have := run_loadVar_row (P := Try.prog) w b 31 31 C fr _ hb Try.underlying31 rfl (by rw [hC]; kernel_rfl)
  simp [results, h, hp', asAddr, this]
theorem rcheck_bad (c0 c1 c2 c3 c4 c5 c6 : Int) (Ai : Option Addr) (ki ci : Nat) (A : Option Addr) (N cN : Nat) (hg : goodB c0 c1 c2 c3 c4 c5 c6 = false ∨ (goodB c0 c1 c2 c3 c4 c5 c6 = true ∧ ki ≠ 0 ∧ (ki : Int) ≠ c1)) (W : World) :
    Calls Try.prog 8 #[.agg #[.int .i64 c0, .int .i64 c1, .int .i64 c2, .int .i64 c3, .int .i64 c4, .int .i64 c5, .int .i64 c6], .slice Ai ki ci, .slice A N cN] W fun e w' => e = .returned (.agg (ckc 0 1 none 0 0 none 0 0)) ∧ Chg [] W w' := by
  have HG := Lib.hid hg
  clear hg
  obtain ⟨n1, n2⟩ := one_new W (.cells #[.int .i64 c0, .int .i64 c1, .int .i64 c2, .int .i64 c3, .int .i64 c4, .int .i64 c5, .int .i64 c6] 23)
  obtain ⟨m1, m2⟩ := one_new (W.alloc (.cells #[.int .i64 c0, .int .i64 c1, .int .i64 c2, .int .i64 c3, .int .i64 c4, .int .i64 c5, .int .i64 c6] 23)) (.cells #[.int .i64 0, .int .i64 0, .slice none 0 0, .slice none 0 0] 31)
  have hsz : (W.alloc (.cells #[.int .i64 c0, .int .i64 c1, .int .i64 c2, .int .i64 c3, .int .i64 c4, .int .i64 c5, .int .i64 c6] 23)).heap.size = W.heap.size + 1 := by simp
  rw [hsz] at m1
  have n3 := m2.keep n1 (by simp)
  have N2 := Lib.hid (n2.trans m2)
  clear n1 n2 m2 hsz
  go_enter Try.func8, Try.ntmps8
  go_upto_region 1 with fail
  generalize (W.alloc (.cells #[.int .i64 c0, .int .i64 c1, .int .i64 c2, .int .i64 c3, .int .i64 c4, .int .i64 c5, .int .i64 c6] 23)).alloc (.cells #[.int .i64 0, .int .i64 0, .slice none 0 0, .slice none 0 0] 31) = w2 at *
  generalize hrb : W.heap.size + 1 = rb at *
  generalize hp : W.heap.size = p at *
  have HRB := Lib.hid hrb
  have HP := Lib.hid hp
  clear hrb hp
  go_wp2_with (go_at_call 18; refine (rnew_bad18 Ai ki ci c0 c1 c2 c3 c4 c5 c6 HG.out _).mono ?_; rintro e w3 ⟨rfl, c3⟩; have m4 := c3.keep m1 (by simp); have N3 := Lib.hid (N2.out.trans c3); clear c3 m1)
  refine bodyPost_ret (v := .agg (ckc 0 1 none 0 0 none 0 0)) (results_ck18 (by rfl) _ _ rb _ (by rfl) (0, 0) (by rfl) (by simp [m4, ckc])) (by rfl) ⟨rfl, N3.out.putRow _ _ _ (.inr (by have := HRB.out; have := HP.out; omega))⟩
/-- A bus that runs beside a result. -/
structure RunR (z : Cf) (W w : World) (q bl kb bp ck rb : Nat) (R : Rb) (bc : Nat) (I : List Nat) (xs : List Ci) : Prop where
  P : DbP z w q bl kb bp bc ck I xs R
  ge : ∀ b ∈ [q, bl, kb, bp, bc] ++ I, W.heap.size ≤ b
  ch : Chg [] W w
  nr : rb ∉ [q, bl, kb, bp, bc] ++ I
  hr : w.heap[rb]? = some (.cells #[.int .i64 0, .int .i64 0, .slice none 0 0, .slice none 0 0] 31 (0, 0))
theorem RunR.step {z : Cf} {W w w' : World} {q bl kb bp ck rb : Nat} {R : Rb} {bc : Nat} {I : List Nat} {xs : List Ci} (h : RunR z W w q bl kb bp ck rb R bc I xs) {o : Option Rb} {e : Ending} (hd : DoTo18 z w q bl kb bp bc ck I R o e w') : ∃ bc' I' xs', RunR z W w' q bl kb bp ck rb (o.getD R) bc' I' xs' := by
  obtain ⟨_, bc', I', xs', hP, hc, hb, hI⟩ := hd
  have hrs := lt_heap h.hr
  have hs := h.ch.size
  refine ⟨bc', I', xs', hP, fun b hb' => ?_, h.ch.trans' hc (fun y hy => .inr (h.ge y (List.mem_append.2 (.inl hy)))), fun hm => ?_, hc.keep h.hr (fun hm => h.nr (List.mem_append.2 (.inl hm)))⟩
  · rcases List.mem_append.1 hb' with h1 | h1
    · simp only [List.mem_cons, List.not_mem_nil, or_false] at h1
      rcases h1 with rfl | rfl | rfl | rfl | rfl
      · exact h.ge _ (by simp)
      · exact h.ge _ (by simp)
      · exact h.ge _ (by simp)
      · exact h.ge _ (by simp)
      · rcases hb with rfl | hb
        · exact h.ge _ (by simp)
        · omega
    · rcases hI b h1 with h2 | h2
      · exact h.ge _ (List.mem_append.2 (.inr h2))
      · omega
  · have nr := h.nr
    rcases List.mem_append.1 hm with h1 | h1
    · simp only [List.mem_cons, List.not_mem_nil, or_false] at h1
      rcases h1 with rfl | rfl | rfl | rfl | rfl
      · exact nr (by simp)
      · exact nr (by simp)
      · exact nr (by simp)
      · exact nr (by simp)
      · rcases hb with rfl | hb
        · exact nr (by simp)
        · omega
    · rcases hI _ h1 with h2 | h2
      · exact nr (List.mem_append.2 (.inr h2))
      · omega
/-- What 'Check' tells, of a run. -/
def CkTo (z : Cf) (W : World) (t : Nat × Rb) (N : Nat) (e : Ending) (w' : World) : Prop :=
  (t.1 ≠ N → e = .returned (.agg (ckc t.1 16 none 0 0 none 0 0))) ∧ (t.1 = N → ∃ bl kb ck r, e = .returned (.agg (ckc N 0 (some ⟨bl, 0, none⟩) z.n z.n (some ⟨kb, 0, none⟩) z.n ck)) ∧ w'.heap[bl]? = some (.cells (bk t.2.ls []) 44 (0, 0)) ∧ w'.heap[kb]? = some (.cells (bk t.2.ks r) 44 (0, 0)) ∧ t.2.ls.length = z.n * 8 ∧ t.2.ks.length = z.n * 8) ∧ Chg [] W w'
theorem rcheck_ok {z : Cf} (c0 c1 c2 c3 c4 c5 c6 : Int) (Ai : Option Addr) (ki ci : Nat) {A : Option Addr} {N cN : Nat} (xs : List Ev) (R0 : Rb) (ok : R0.Ok z 0) (W : World) (hs : Sl W 5 A N (cat Ev.enc xs)) (hl : xs.length = N) (hN : N ≤ 500)
    (hnew : ∀ w, Chg [] W w → Calls Try.prog 18 #[.agg #[.int .i64 c0, .int .i64 c1, .int .i64 c2, .int .i64 c3, .int .i64 c4, .int .i64 c5, .int .i64 c6], .slice Ai ki ci] w (NewTo18 z w R0)) :
    Calls Try.prog 8 #[.agg #[.int .i64 c0, .int .i64 c1, .int .i64 c2, .int .i64 c3, .int .i64 c4, .int .i64 c5, .int .i64 c6], .slice Ai ki ci, .slice A N cN] W (CkTo z W (trialR R0 xs) N) := by
  have HS := Lib.hid hs
  have HL := Lib.hid hl
  have OK := Lib.hid ok
  have HW := Lib.hid hnew
  clear hs hl ok hnew
  obtain ⟨n1, n2⟩ := one_new W (.cells #[.int .i64 c0, .int .i64 c1, .int .i64 c2, .int .i64 c3, .int .i64 c4, .int .i64 c5, .int .i64 c6] 23)
  obtain ⟨m1, m2⟩ := one_new (W.alloc (.cells #[.int .i64 c0, .int .i64 c1, .int .i64 c2, .int .i64 c3, .int .i64 c4, .int .i64 c5, .int .i64 c6] 23)) (.cells #[.int .i64 0, .int .i64 0, .slice none 0 0, .slice none 0 0] 31)
  have hsz : (W.alloc (.cells #[.int .i64 c0, .int .i64 c1, .int .i64 c2, .int .i64 c3, .int .i64 c4, .int .i64 c5, .int .i64 c6] 23)).heap.size = W.heap.size + 1 := by simp
  rw [hsz] at m1
  have n3 := m2.keep n1 (by simp)
  have N2 := Lib.hid (n2.trans m2)
  clear n1 n2 m2 hsz
  go_enter Try.func8, Try.ntmps8
  go_upto_region 1 with fail
  generalize (W.alloc (.cells #[.int .i64 c0, .int .i64 c1, .int .i64 c2, .int .i64 c3, .int .i64 c4, .int .i64 c5, .int .i64 c6] 23)).alloc (.cells #[.int .i64 0, .int .i64 0, .slice none 0 0, .slice none 0 0] 31) = w2 at *
  generalize hrb : W.heap.size + 1 = rb at *
  generalize hp : W.heap.size = p at *
  have HRB := Lib.hid hrb
  have HP := Lib.hid hp
  clear hrb hp
  go_upto_region 2 with (go_at_call 18; refine (HW.out w2 N2.out).mono ?_; rintro e w3 ⟨q, bl, kb, bp, bc, ck, xs0, rfl, hP, hge, hc⟩; have m4 := hc.keep m1 (by simp); have n4 := hc.keep n3 (by simp); have N3 := Lib.hid (N2.out.trans hc); have HP3 := Lib.hid hP; have HG3 := Lib.hid hge; have HRW := Lib.hid (lt_heap m1); have HS2 := Lib.hid N2.out.size; clear hc hP hge m1 n3)
  have hrun : RunR z W w3 q bl kb bp ck rb R0 bc [] xs0 := by
    refine ⟨HP3.out, fun b hb => ?_, N3.out, fun hm => ?_, m4⟩
    · have := HG3.out b (by simpa using hb); have := HS2.out; omega
    · have := HG3.out rb (by simpa using hm); have := HRW.out; omega
  have HR := Lib.hid hrun
  clear hrun m4 n4
  go_wp2_with fail
  go_loopw [9] (fun i wr => ∃ (j bc : Nat) (T : Rb) (I : List Nat) (xs' : List Ci), j ≤ N ∧ i = .int .i64 j ∧ RunR z W wr q bl kb bp ck rb T bc I xs' ∧ T.Ok z j ∧ trialR R0 xs = (j + (trialR T (xs.drop j)).1, (trialR T (xs.drop j)).2)) (fun i _ => N - (intOf i).toNat)
  case atStart => exact ⟨0, bc, R0, [], xs0, Nat.zero_le _, rfl, HR.out, OK.out, by rw [List.drop_zero, Nat.zero_add]⟩
  case round =>
    clear HR HP3 HG3 HRW HS2
    obtain ⟨j, bc, T, I, xs', hj, rfl, h1, h3, h4⟩ := hrel
    have HX := Lib.hid h1
    have HO := Lib.hid h3
    have HR := Lib.hid h4
    clear h1 h3 h4
    by_cases hlt : j < N
    · obtain ⟨x, hx⟩ : ∃ x, xs[j]? = some x := ⟨xs[j]'(by rw [HL.out]; exact hlt), List.getElem?_eq_getElem _⟩
      have hdr : xs.drop j = x :: xs.drop (j + 1) := by
        obtain ⟨h2, rfl⟩ := List.getElem?_eq_some_iff.1 hx
        exact List.drop_eq_getElem_cons h2
      have hr := HR.out
      rw [hdr] at hr
      have HR2 := Lib.hid hr
      obtain ⟨b, o, rfl⟩ := HS.out.addr (by omega)
      obtain ⟨cs, ty, f, hb, _, hpa⟩ := (HS.out.chg HX.out.ch (by simp)).elem (by omega) hlt (cat_part Ev.len hx)
      obtain ⟨r1, r2⟩ := hpa 0 5 (by omega)
      rw [show ((Ev.enc x).drop 0 |>.take 5).toArray = evc x from rfl, Nat.add_zero] at r2
      rw [Nat.add_zero] at r1
      have g1 : (j : Int) < (N : Int) := by omega
      have g0 : (0 : Int) ≤ (j : Int) := by omega
      have g2 : (N : Int) ≤ 500 := by omega
      have HJ := Lib.hid hlt
      have hrr := HX.out.hr
      clear hx hdr hr hpa HR hlt hj
      cases hd : doR T x with
      | none =>
        have HD := Lib.hid hd
        clear hd
        go_wp2_with (go_at_call 19; have hda := rdo_any HX.out.P HO.out (by have := HJ.out; omega) x; rw [HD.out] at hda; refine hda.mono ?_; rintro e w5 h5; have H5 := Lib.hid h5; have he := h5.1; clear h5; subst he; obtain ⟨bc', I', xs2, hrn⟩ := HX.out.step H5.out; have hr5 := hrn.hr; have HRN := Lib.hid hrn; clear hrn hrr hb)
        refine bodyPost_ret (v := .agg (ckc j 16 none 0 0 none 0 0)) (results_ck18 (by rfl) _ _ rb _ (by rfl) (0, 0) (by rfl) (by simp [hr5, ckc])) (by rfl) ?_
        rw [HR2.out, trialR_stop HD.out]
        have hjn := HJ.out
        refine ⟨fun _ => rfl, fun h => absurd h (by simp; omega), HRN.out.ch.putRow _ _ _ (.inr (by have := HRB.out; have := HP.out; omega))⟩
      | some T' =>
        have HD := Lib.hid hd
        clear hd
        go_wp2_with (go_at_call 19; have hda := rdo_any HX.out.P HO.out (by have := HJ.out; omega) x; rw [HD.out] at hda; refine hda.mono ?_; rintro e w5 h5; have H5 := Lib.hid h5; have he := h5.1; clear h5; subst he; obtain ⟨bc', I', xs2, hrn⟩ := HX.out.step H5.out; have HRN := Lib.hid hrn; clear hrn hrr hb)
        go_roundw
        case measure =>
          show N - ((j : Int) + 1).toNat < N - ((j : Int)).toNat
          have := HJ.out
          omega
        case rel =>
          refine ⟨j + 1, bc', T', I', xs2, HJ.out, by go_num, HRN.out, rdo_ok HO.out HD.out, ?_⟩
          rw [HR2.out, trialR_go HD.out]
          refine Prod.ext ?_ rfl
          simp only
          omega
    · obtain rfl : j = N := by omega
      have g1 : ¬ (j : Int) < (j : Int) := by omega
      have hdr : xs.drop j = [] := List.drop_of_length_le (by rw [HL.out]; exact Nat.le_refl _)
      have hr := HR.out
      rw [hdr] at hr
      have HR2 := Lib.hid hr
      have hrr := HX.out.hr
      have hqq := HX.out.P.hq
      unfold dbc at hqq
      have HRQ := Lib.hid (show rb ≠ bl ∧ rb ≠ kb from ⟨fun h => HX.out.nr (by simp [h]), fun h => HX.out.nr (by simp [h])⟩)
      clear hr hdr HR hlt hj
      go_upto_region 9 with fail
      go_region
      go_wp2_with fail
      refine bodyPost_ret (v := .agg (ckc j 0 (some ⟨bl, 0, none⟩) z.n z.n (some ⟨kb, 0, none⟩) z.n ck)) (results_ck18 (by rfl) _ _ rb _ (by rfl) (0, 0) (by rfl) (by simp [hrr, ckc])) (by rfl) ?_
      rw [HR2.out]
      have cR : Chg [rb] wr (putRow wr.drew rb 0 (ckc j 0 (some ⟨bl, 0, none⟩) z.n z.n (some ⟨kb, 0, none⟩) z.n ck)) := ((Chg.refl [rb] wr).drew).putRow _ _ _ (.inl (by simp))
      obtain ⟨r, hk⟩ := HX.out.P.hk
      exact ⟨fun h => absurd rfl h, fun _ => ⟨bl, kb, ck, r, rfl, cR.keep HX.out.P.hl (by simpa using Ne.symm HRQ.out.1), cR.keep hk (by simpa using Ne.symm HRQ.out.2), HO.out.ls, HO.out.ks⟩, HX.out.ch.trans' cR (fun y hy => .inr (by rw [List.mem_singleton] at hy; have := HRB.out; have := HP.out; omega))⟩
end Go.Proofs.Ytnocekhgabgffaa
end
section
namespace Go.Proofs.Ytnocekhgabgffaa
open Go.RowKit
set_option linter.unusedVariables false
set_option maxHeartbeats 1000000

set_option maxRecDepth 100000
attribute [local go_sem ↓] append_appS copy_copS clear_clrS make_mkS slice_slS lookup_lookS mput_mputS del_mdelS cell_row frozen_row heap_drew heap_drewN heap_alloc heap_past heap_setCell heap_putRow heap_setB loadEv storeEv loadBe storeBe loadSp storeSp loadNw storeNw loadLine storeLine evc_kd evc_co evc_li evc_wo evc_va bec_fl bec_li bec_wo bec_va nwC_0 nwC_1 spC_0 spC_1
attribute [local go_sem] rowCell_some rowFrozen_some rowHas_some rowIn_some rowPart_full rowPart_lit rowPut_full rowPut_lit rowSet_some size_putRow size_setB run_loadS run_storeS run_appS run_copS run_clrS run_mkS run_slS run_lookS run_mputS run_mdelS loadW_at storeW_at fit_all fit_le one_int one_bool one_pointer one_slice allOne_list putRow_new ne_size1 ne_size2 ne_size3 ne_size4 wideEv wideBe wideSp wideNw wideLine evc_size evc_one evc_ne evc_lit evc_z fold_evc bec_size bec_one bec_lit bec_ne bec_at bec_in spC_size spC_one nwC_size nwC_one nwC_ne nwC_set0 nwC_set1 nwC_lit bec_set0 bec_set1 bec_set2 bec_set3 spC_set0 spC_set1 spC_lit fold_spC spC_ne fold_nwC fold_bec fold_at vs_size vs_one ic_size ic_get
attribute [local simp ↓] heap_drew heap_drewN heap_alloc heap_past heap_setCell heap_putRow heap_setB
attribute [local simp] rowCell_some rowFrozen_some rowHas_some rowIn_some rowPart_full rowPart_lit rowPut_full rowPut_lit rowSet_some size_putRow size_setB fit_all putRow_new ne_size1 ne_size2 ne_size3 ne_size4 evc_size bec_size spC_size nwC_size vs_size fit_le
theorem ev_eq18 (a b : Ev) (w : World) : (Op.equalIn 10000 41 (.agg (evc a)) (.agg (evc b))).run Try.prog w = .ok (decide (a = b)) w := by
  have h0 := fun a => run_part_plain (P := Try.prog) w (e := 3) (by kernel_rfl) (evc_kd a)
  have h1 := fun a => run_part_plain (P := Try.prog) w (e := 3) (by kernel_rfl) (evc_co a)
  have h2 := fun a => run_part_plain (P := Try.prog) w (e := 3) (by kernel_rfl) (evc_li a)
  have h3 := fun a => run_part_plain (P := Try.prog) w (e := 3) (by kernel_rfl) (evc_wo a)
  have h4 := fun a => run_part_plain (P := Try.prog) w (e := 39) (by kernel_rfl) (evc_va a)
  have e0 := fun a b => run_equalIn_int w 9998 3 .i64 .i64 a b Try.underlying3
  have e1 := fun a b => run_equalIn_int w 9998 39 .u64 .u64 a b Try.underlying39
  rw [run_equalIn_struct w 9999 41 _ _ (by simp only [Program.fieldsOf, Try.underlying41]) (by kernel_rfl)]
  simp only [Program.fieldsOf, Try.underlying41]
  cases a; cases b
  rename_i x1 x2 x3 x4 x5 y1 y2 y3 y4 y5
  simp [Op.eqFields, h0, h1, h2, h3, h4, e0, e1]
  by_cases x : x1 = y1 <;> by_cases y : x2 = y2 <;> by_cases z : x3 = y3 <;> by_cases u : x4 = y4 <;> by_cases v : x5 = y5 <;> simp [*]
set_option maxRecDepth 100000
attribute [local go_sem ↓] append_appS copy_copS clear_clrS make_mkS cell_row frozen_row heap_drew heap_drewN heap_alloc heap_past heap_setCell heap_putRow loadEv storeEv evc_kd evc_co evc_li evc_wo evc_va
attribute [local go_sem] rowCell_some rowFrozen_some rowHas_some rowIn_some rowPart_full rowPart_lit rowPut_full rowPut_lit rowSet_some size_putRow run_loadS run_storeS run_appS run_copS run_clrS run_mkS loadW_at storeW_at fit_all fit_le one_int one_bool one_pointer one_slice allOne_list putRow_new ne_size1 ne_size2 ne_size3 ne_size4 wideEv evc_size evc_one evc_ne evc_lit evc_z evc_set0 evc_set1 evc_set2 evc_set3 evc_set4 evZ_kd evZ_co evZ_li evZ_wo evZ_va fold_evc
attribute [local simp ↓] heap_drew heap_drewN heap_alloc heap_past heap_setCell heap_putRow
attribute [local simp] rowCell_some rowFrozen_some rowHas_some rowIn_some rowPart_full rowPart_lit rowPut_full rowPut_lit rowSet_some size_putRow fit_all putRow_new ne_size1 ne_size2 ne_size3 ne_size4 evc_size fit_le
attribute [local go_sem ↓] ev_eq18
theorem events_same {A B : Option Addr} {n c c' : Nat} (xs : List Ev) (w : World) (h1 : Sl w 5 A n (cat Ev.enc xs)) (h2 : Sl w 5 B n (cat Ev.enc xs)) (hl : xs.length = n) (h5 : n ≤ 100000) :
    Calls Try.prog 12 #[.slice A n c, .slice B n c'] w fun e w' => e = .returned (.bool true) ∧ Chg [] w w' := by
  have H1 := Lib.hid h1
  have H2 := Lib.hid h2
  have HL := Lib.hid hl
  clear h1 h2 hl
  go_enter Try.func12, Try.ntmps12
  have tn : ((n : Int) != (n : Int)) = false := by simp
  go_wp2
  go_loopw [5] (fun i wr => ∃ k : Nat, k ≤ n ∧ i = .int .i64 k ∧ Chg [] w wr) (fun i _ => n - (intOf i).toNat)
  case atStart => exact ⟨0, by omega, rfl, Chg.refl _ _⟩
  case round =>
    obtain ⟨k, hk, rfl, hc⟩ := hrel
    by_cases hlt : k < n
    · obtain ⟨b, o, rfl⟩ := H1.out.addr (by omega)
      obtain ⟨b', o', rfl⟩ := H2.out.addr (by omega)
      obtain ⟨x, hx⟩ : ∃ x, xs[k]? = some x := ⟨xs[k]'(by rw [HL.out]; exact hlt), List.getElem?_eq_getElem _⟩
      obtain ⟨cs, t, f, hb, _, hpa⟩ := (H1.out.chg hc (by simp)).elem (by omega) hlt (cat_part Ev.len hx)
      obtain ⟨cs', t', f', hb', _, hpa'⟩ := (H2.out.chg hc (by simp)).elem (by omega) hlt (cat_part Ev.len hx)
      obtain ⟨r1, r2⟩ := hpa 0 5 (by omega)
      obtain ⟨s1, s2⟩ := hpa' 0 5 (by omega)
      rw [show ((Ev.enc x).drop 0 |>.take 5).toArray = evc x from rfl, Nat.add_zero] at r2 s2
      rw [Nat.add_zero] at r1 s1
      have g1 : (k : Int) < (n : Int) := by omega
      have g0 : (0 : Int) ≤ (k : Int) := by omega
      have g2 : (n : Int) ≤ 100000 := by omega
      have HC := Lib.hid hc
      have HK := Lib.hid hlt
      have tq : decide (x = x) = true := by simp
      clear hx hc hpa hpa' hlt hk
      go_wp2
      go_quiet (fail)
      go_wp2
      go_roundw
      case rel => exact ⟨k + 1, by have := HK.out; omega, by go_num, HC.out.drewN _⟩
      case measure => have := HK.out; simp [intOf]; omega
    · have : k = n := by omega
      subst this
      go_wp2
      go_ret
      exact ⟨rfl, hc⟩
theorem lines_nil18 (w : World) : Calls Try.prog 11 #[.slice none 0 0, .slice none 0 0] w fun e w' => e = .returned (.bool true) ∧ Chg [] w w' := by
  go_enter Try.func11, Try.ntmps11
  go_wp2
  go_loopw [5] (fun i wr => i = .int .i64 0 ∧ Chg [] w wr) (fun i _ => 0)
  case atStart => exact ⟨rfl, Chg.refl _ _⟩
  case round =>
    obtain ⟨rfl, hc⟩ := hrel
    go_wp2
    go_ret
    exact ⟨rfl, hc⟩
/-- A new bus of the program's, of an image that has no line or each. -/
def NewB (n m v : Nat) (c3 c4 c5 c6 : Int) (ki : Nat) (img : List Int) : Prop := ∀ (A : Option Addr) (c : Nat) (w : World), Sl w 8 A ki (img.map (Value.int .u64)) → Calls Try.prog 22 #[.agg #[.int .i64 m, .int .i64 n, .int .i64 v, .int .i64 c3, .int .i64 c4, .int .i64 c5, .int .i64 c6], .slice A ki c] w fun e w' => ∃ q, e = .returned (.tuple #[.pointer (some ⟨q, 0, none⟩), .int .i64 0]) ∧ BusW n m w w' q (bs1 n m v (imgX n v img))
/-- .. of the document's. -/
def NewD (n m v : Nat) (c3 c4 c5 c6 : Int) (ki : Nat) (img : List Int) : Prop := ∀ (A : Option Addr) (c : Nat) (w : World), Sl w 8 A ki (img.map (Value.int .u64)) → Calls Try.prog 18 #[.agg #[.int .i64 m, .int .i64 n, .int .i64 v, .int .i64 c3, .int .i64 c4, .int .i64 c5, .int .i64 c6], .slice A ki c] w (NewTo18 ⟨m, n, v, c3, c4, c5, c6⟩ w (rb1 n m v (imgX n v img)))
theorem newB_any {n m v : Nat} {c3 c4 c5 c6 : Int} (hg : goodB m n v c3 c4 c5 c6 = true) {ki : Nat} (hk : ki = 0 ∨ ki = n) (img : List Int) : NewB n m v c3 c4 c5 c6 ki img := by
  intro A c w hA
  rcases hk with rfl | rfl
  · refine (bnew_im0 A c img m n v c3 c4 c5 c6 hg w hA).mono ?_
    rintro e w' ⟨q, F, rfl, h1, h2, h3⟩
    exact ⟨q, rfl, F, h1, h2, h3⟩
  · refine (bnew_imn A c img m ki v c3 c4 c5 c6 hg w hA).mono ?_
    rintro e w' ⟨q, F, rfl, h1, h2, h3⟩
    exact ⟨q, rfl, F, h1, h2, h3⟩
theorem newD_any {n m v : Nat} {c3 c4 c5 c6 : Int} (hg : goodB m n v c3 c4 c5 c6 = true) {ki : Nat} (hk : ki = 0 ∨ ki = n) (img : List Int) : NewD n m v c3 c4 c5 c6 ki img := by
  intro A c w hA
  rcases hk with rfl | rfl
  · exact rnew_0 A c img m n v c3 c4 c5 c6 hg w hA
  · exact rnew_n A c img m ki v c3 c4 c5 c6 hg w hA
end Go.Proofs.Ytnocekhgabgffaa
end
section
namespace Go.Proofs.Ytnocekhgabgffaa
open Go.RowKit
set_option linter.unusedVariables false
set_option maxHeartbeats 1000000

set_option maxRecDepth 100000
attribute [local go_sem ↓] append_appS copy_copS clear_clrS make_mkS slice_slS lookup_lookS mput_mputS del_mdelS cell_row frozen_row heap_drew heap_drewN heap_alloc heap_past heap_setCell heap_putRow heap_setB loadEv storeEv loadBe storeBe loadSp storeSp loadNw storeNw loadLine storeLine evc_kd evc_co evc_li evc_wo evc_va bec_fl bec_li bec_wo bec_va nwC_0 nwC_1 spC_0 spC_1
attribute [local go_sem] rowCell_some rowFrozen_some rowHas_some rowIn_some rowPart_full rowPart_lit rowPut_full rowPut_lit rowSet_some size_putRow size_setB run_loadS run_storeS run_appS run_copS run_clrS run_mkS run_slS run_lookS run_mputS run_mdelS loadW_at storeW_at fit_all fit_le one_int one_bool one_pointer one_slice allOne_list putRow_new ne_size1 ne_size2 ne_size3 ne_size4 wideEv wideBe wideSp wideNw wideLine evc_size evc_one evc_ne evc_lit evc_z fold_evc bec_size bec_one bec_lit bec_ne bec_at bec_in spC_size spC_one nwC_size nwC_one nwC_ne nwC_set0 nwC_set1 nwC_lit bec_set0 bec_set1 bec_set2 bec_set3 spC_set0 spC_set1 spC_lit fold_spC spC_ne fold_nwC fold_bec fold_at vs_size vs_one ic_size ic_get
attribute [local simp ↓] heap_drew heap_drewN heap_alloc heap_past heap_setCell heap_putRow heap_setB
attribute [local simp] rowCell_some rowFrozen_some rowHas_some rowIn_some rowPart_full rowPart_lit rowPut_full rowPut_lit rowSet_some size_putRow size_setB fit_all putRow_new ne_size1 ne_size2 ne_size3 ne_size4 evc_size bec_size spC_size nwC_size vs_size fit_le
attribute [local go_sem ↓] loadCf storeCf
attribute [local go_sem] wideCf
theorem eltEv18 : Elt Try.prog 25 41 5 40 (.agg (evc evZ)) Ev.enc where
  slice := Try.underlying25
  info := by kernel_rfl
  zero := evc_size evZ
  zone := by intro v hv; exact Ev.one evZ v (by simpa [Value.cells, evc] using hv)
  pos := by omega
  len := Ev.len
  one := Ev.one
theorem slE_to (A : Option Addr) (n cap k : Nat) (h1 : k ≤ n) (h2 : n ≤ cap) (w : World) : slR Try.prog 25 (.slice A n cap) none (some (.int .i64 k)) none w = .ok (.slice A k cap) w := by
  obtain ⟨i0, hi0⟩ : ∃ i, Try.prog.info? 41 = some i := Option.isSome_iff_exists.1 (by kernel_rfl)
  unfold slR
  have h3 : (0 : Int) ≤ (k : Int) := by omega
  have h4 : k ≤ cap := by omega
  cases A with
  | none => simp [Instr.slice, Instr.sliceBounds, Instr.sliceBound, asIntOf, run_underlying Try.underlying25, sizeOf, typeInfo, hi0, h3, h4]
  | some a =>
    have h6 : a.add 0 = a := by simp [Addr.add]
    simp [Instr.slice, Instr.sliceBounds, Instr.sliceBound, asIntOf, run_underlying Try.underlying25, sizeOf, typeInfo, hi0, h3, h4, h6]
theorem wp_value18 {P : Program} {o : Oper} {a : Act} {w w' : World} {K : Act → World → Prop} {Q : Exit → Act → World → Prop} {v : Value} (h : (execOp a.eval o).run P w = .ok (.value v) w') (hk : K (a.put o.dst v) w') : o.wp P a w K Q := by
  unfold Oper.wp
  rw [h]
  exact hk
theorem Sl.takeE {w : World} {A : Option Addr} {n k : Nat} {xs : List Ev} (h : Sl w 5 A n (cat Ev.enc xs)) (hl : xs.length = n) (hk : k ≤ n) : Sl w 5 A k (cat Ev.enc (xs.take k)) := by
  refine ⟨by rw [cat_length Ev.len, List.length_take]; omega, ?_⟩
  rcases h.2 with h2 | ⟨b, o, c, t, f, h1, h2, h3⟩
  · exact .inl (by omega)
  · refine .inr ⟨b, o, c, t, f, h1, h2, ?_⟩
    rw [← cat_take Ev.len, ← h3, List.take_take, Nat.min_eq_left (by omega)]
/-! ### What every statement of layer 18 wakes -/
def l18 : List Ev := [⟨12, 0, 3, 1, 5⟩, ⟨3, 0, 3, 1, 5⟩, ⟨1, 0, 3, 1, 6⟩]
theorem l18_at : (trialB (bs0 6 2 1) l18).1 = 2 := by rfl
theorem l18_all : (trialB (bs0 6 2 1) (l18.take 2)).1 = 2 := by rfl
theorem l18_ls (r : List Value) : (bk (trialB (bs0 6 2 1) (l18.take 2)).2.ls r)[25]? = some (.int .u64 5) := rfl
theorem l18_ks (r : List Value) : (bk (trialB (bs0 6 2 1) (l18.take 2)).2.ks r)[25]? = some (.int .u64 0) := rfl
theorem b0_ok : (bs0 6 2 1).Ok 6 2 0 := bs0_ok (by omega) (by omega) (by omega) (by omega)
theorem wakes18_any (W : World) : Calls Try.prog 6 #[] W fun e w' => e = .returned (.bool true) ∧ Chg [] W w' := by
  go_enter Try.func6, Try.ntmps6
  try dsimp only [List.append]
  go_upto_region 1 with fail
  go_step
  repeat (first | go_values | go_skip | go_guarded | go_step)
  go_at_call 14
  refine (at_any _ _ _).mono ?_
  rintro e u0 ⟨rfl, c⟩
  have K0 := Lib.hid c
  clear c
  dsimp only
  go_at_K
  repeat (first | go_values | go_skip | go_guarded | go_step)
  go_at_call 14
  refine (at_any _ _ _).mono ?_
  rintro e u1 ⟨rfl, c⟩
  have K1 := Lib.hid (K0.out.trans c)
  clear c
  dsimp only
  go_at_K
  repeat (first | go_values | go_skip | go_guarded | go_step)
  go_at_call 14
  refine (at_any _ _ _).mono ?_
  rintro e u2 ⟨rfl, c⟩
  have K2 := Lib.hid (K1.out.trans c)
  clear c
  dsimp only
  go_at_K
  go_step
  go_step
  refine wp_value18 (v := .slice (some ⟨u2.heap.size, 0, none⟩) 3 3) (w' := u2.alloc (.cells (cat Ev.enc l18).toArray 41)) (by kernel_rfl) ?_
  have hb1 : (u2.alloc (.cells (cat Ev.enc l18).toArray 41)).heap[u2.heap.size]? = some (.cells (cat Ev.enc l18).toArray 41 (0, 0)) := (MapKept.heap_alloc u2 _).1
  have HS := Lib.hid (show Sl (u2.alloc (.cells (cat Ev.enc l18).toArray 41)) 5 (some ⟨u2.heap.size, 0, none⟩) 3 (cat Ev.enc l18) from ⟨rfl, .inr ⟨u2.heap.size, 0, _, _, (0, 0), rfl, hb1, rfl⟩⟩)
  have C1 := Lib.hid (K2.out.alloc (.cells (cat Ev.enc l18).toArray 41))
  clear hb1 K2
  generalize u2.alloc (.cells (cat Ev.enc l18).toArray 41) = w1 at C1 HS ⊢
  generalize u2.heap.size = b1 at HS ⊢
  dsimp only
  go_at_K
  go_upto_region 3 with (first | (go_at_call 15; refine (plain_any _).mono ?_; rintro e w2 ⟨rfl, c⟩; have C2 := Lib.hid (C1.out.trans c); have HS2 := Lib.hid (HS.out.chg c (by simp)); clear c HS C1) | (go_at_call 7; refine (check_ok (n := 6) (m := 2) _ _ _ _ _ _ _ none 0 0 l18 (bs0 6 2 1) b0_ok _ HS2.out rfl (by omega) (fun w _ => new_w 2 6 1 1 2 2 2 rfl w) 16 (by rw [l18_at]; rfl) 2 (by rw [l18_at]; rfl)).mono ?_; rintro e w3 ⟨rfl, c⟩; have C3 := Lib.hid (C2.out.trans c); have HS3 := Lib.hid (HS2.out.chg c (by simp)); clear c HS2 C2))
  have hsl : ∀ w, slR Try.prog 25 (.slice (some ⟨b1, 0, none⟩) 3 3) none (some (.int .i64 2)) none w = .ok (.slice (some ⟨b1, 0, none⟩) 2 3) w := fun w => slE_to _ 3 3 2 (by omega) (by omega) w
  go_region_with (first | (go_at_call 15; refine (plain_any _).mono ?_; rintro e w4 ⟨rfl, c⟩; have C4 := Lib.hid (C3.out.drew.trans c); have HS4 := Lib.hid ((HS3.out.chg (Chg.refl [] w3).drew (by simp)).chg c (by simp)); clear c) | (go_at_call 9; refine (ends_ok (n := 6) (m := 2) _ _ _ _ _ _ _ none 0 0 (l18.take 2) (bs0 6 2 1) b0_ok _ (HS4.out.takeE rfl (by omega)) rfl (by omega) (fun w _ => new_w 2 6 1 1 2 2 2 rfl w) l18_all).mono ?_; rintro e w5 ⟨g5, p5, r5, rfl, h5, _, hp5, c⟩; have C5 := Lib.hid (C4.out.trans c); have HS5 := Lib.hid (HS4.out.chg c (by simp)); clear c HS4 C4))
  all_goals
    have hb5 := l18_ls r5
    generalize bk (trialB (bs0 6 2 1) (l18.take 2)).2.ls r5 = B5 at h5 hb5
    go_upto_region 4 with fail
    have h5d : w5.drew.heap[g5]? = some (.cells B5 44 (0, 0)) := h5
    go_region_with (first | (go_at_call 15; refine (plain_any _).mono ?_; rintro e w6 ⟨rfl, c⟩; have C6 := Lib.hid (C5.out.drew.trans c); have h6 := c.keep h5d (by simp); have HS6 := Lib.hid ((HS5.out.chg (Chg.refl [] w5).drew (by simp)).chg c (by simp)); clear c) | (go_at_call 10; refine (keeps_ok (n := 6) (m := 2) _ _ _ _ _ _ _ none 0 0 (l18.take 2) (bs0 6 2 1) b0_ok _ (HS6.out.takeE rfl (by omega)) rfl (by omega) (fun w _ => new_w 2 6 1 1 2 2 2 rfl w) l18_all).mono ?_; rintro e w7 ⟨g7, p7, r7, rfl, h7, _, hp7, c⟩; have C7 := Lib.hid (C6.out.trans c); have h7b := c.keep h6 (by simp); clear c HS6 C6))
    all_goals
      have hb7 := l18_ks r7
      generalize bk (trialB (bs0 6 2 1) (l18.take 2)).2.ks r7 = B7 at h7 hb7
      go_wp2_with fail
      go_ret
      exact ⟨rfl, C7.out⟩
end Go.Proofs.Ytnocekhgabgffaa
end
section
namespace Go.Proofs.Ytnocekhgabgffaa
open Go.RowKit
set_option linter.unusedVariables false
set_option maxHeartbeats 1000000

/-! ### A step of the bus, and what the statement remembers behind it -/
section
variable {n m N : Nat} {S T : Bs} {g : Nat → Kl} {fi : List Int} {Z : List Snt} {e : Ev}
theorem last_parts (U : Bs) (e : Ev) : (lastB U e).ls = U.ls ∧ (lastB U e).ks = U.ks ∧ (lastB U e).ps = U.ps ∧ (lastB U e).vol = U.vol := by
  unfold lastB
  split <;> exact ⟨rfl, rfl, rfl, rfl⟩
theorem KI.last (h : KI n m S g fi Z) (e : Ev) : KI n m (lastB S e) g fi Z := by
  obtain ⟨h1, h2, h3, h4⟩ := last_parts S e
  exact h.same h1 h2 h3 h4 (fun c _ => (last_core (S := S) (e := e) (k := c)).1)
/-- A core that changes, but for what it has on its way. -/
theorem KI.core (h : KI n m S g fi Z) (ok : S.Ok n m N) {i : Nat} (hi : i < m) {c' : Bc} (hc : c'.tm = (S.core i).tm) : KI n m (S.setC i c') g fi Z := by
  refine h.same rfl rfl rfl rfl (fun c _ => ?_)
  rw [core_setC (by rw [ok.cs]; exact hi)]
  split
  · rename_i e; rw [hc, e]
  · rfl
def g0 : Nat → Kl := fun _ => ⟨List.replicate 8 0, [], 0, 0, 0⟩
end
end Go.Proofs.Ytnocekhgabgffaa
end
section
namespace Go.Proofs.Ytnocekhgabgffaa
open Go.RowKit
set_option linter.unusedVariables false
set_option maxHeartbeats 1000000

set_option maxRecDepth 100000
attribute [local go_sem ↓] append_appS copy_copS clear_clrS make_mkS slice_slS lookup_lookS mput_mputS del_mdelS cell_row frozen_row heap_drew heap_drewN heap_alloc heap_past heap_setCell heap_putRow heap_setB loadEv storeEv loadBe storeBe loadSp storeSp loadNw storeNw loadLine storeLine evc_kd evc_co evc_li evc_wo evc_va bec_fl bec_li bec_wo bec_va nwC_0 nwC_1 spC_0 spC_1
attribute [local go_sem] rowCell_some rowFrozen_some rowHas_some rowIn_some rowPart_full rowPart_lit rowPut_full rowPut_lit rowSet_some size_putRow size_setB run_loadS run_storeS run_appS run_copS run_clrS run_mkS run_slS run_lookS run_mputS run_mdelS loadW_at storeW_at fit_all fit_le one_int one_bool one_pointer one_slice allOne_list putRow_new ne_size1 ne_size2 ne_size3 ne_size4 wideEv wideBe wideSp wideNw wideLine evc_size evc_one evc_ne evc_lit evc_z fold_evc bec_size bec_one bec_lit bec_ne bec_at bec_in spC_size spC_one nwC_size nwC_one nwC_ne nwC_set0 nwC_set1 nwC_lit bec_set0 bec_set1 bec_set2 bec_set3 spC_set0 spC_set1 spC_lit fold_spC spC_ne fold_nwC fold_bec fold_at vs_size vs_one ic_size ic_get
attribute [local simp ↓] heap_drew heap_drewN heap_alloc heap_past heap_setCell heap_putRow heap_setB
attribute [local simp] rowCell_some rowFrozen_some rowHas_some rowIn_some rowPart_full rowPart_lit rowPut_full rowPut_lit rowSet_some size_putRow size_setB fit_all putRow_new ne_size1 ne_size2 ne_size3 ne_size4 evc_size bec_size spC_size nwC_size vs_size fit_le
def kEv14 : List Kd := [.int .i64, .int .i64, .int .i64, .int .i64, .int .u64]
theorem ev_cells14 {w : World} {cs : List Value} (h : AreKd w kEv14 cs) : ∃ x : Ev, cs = Ev.enc x := by
  obtain ⟨v1, c1, rfl, h1, hB⟩ := AreKd.head h
  obtain ⟨v2, c2, rfl, h2, hC⟩ := AreKd.head hB
  obtain ⟨v3, c3, rfl, h3, hD⟩ := AreKd.head hC
  obtain ⟨v4, c4, rfl, h4, hE⟩ := AreKd.head hD
  obtain ⟨v5, c5, rfl, h5, hF⟩ := AreKd.head hE
  obtain rfl : c5 = [] := List.eq_nil_of_length_eq_zero (by simpa using hF.1)
  simp only [IsKd] at h1 h2 h3 h4 h5
  obtain ⟨a, rfl, _⟩ := h1
  obtain ⟨b, rfl, _⟩ := h2
  obtain ⟨c, rfl, _⟩ := h3
  obtain ⟨d, rfl, _⟩ := h4
  obtain ⟨e, rfl, _⟩ := h5
  exact ⟨⟨a, b, c, d, e⟩, rfl⟩
attribute [local go_sem ↓] loadCf storeCf evc_set0 evc_set1 evc_set2 evc_set3 evc_set4
attribute [local go_sem] wideCf
end Go.Proofs.Ytnocekhgabgffaa
end
section
namespace Go.Proofs.Ytnocekhgabgffaa
open Go.RowKit
set_option linter.unusedVariables false
set_option maxHeartbeats 1000000

/-! ### Runs, in pieces -/
section
variable {n m N : Nat} {S T : Bs}
end
/-- Events out of cells. -/
theorem evs_of18 {w : World} : ∀ (n : Nat) (xs : List Value), xs.length = n * 5 → (∀ i, i < n → AreKd w kEv14 ((xs.drop (i * 5)).take 5)) → ∃ l : List Ev, l.length = n ∧ xs = cat Ev.enc l
  | 0, xs, h, _ => ⟨[], rfl, List.eq_nil_of_length_eq_zero (by omega)⟩
  | n + 1, xs, h, hk => by
    obtain ⟨x, he⟩ := ev_cells14 (hk 0 (by omega))
    obtain ⟨l, hl, hx⟩ := evs_of18 n (xs.drop 5) (by rw [List.length_drop]; omega) (fun i hi => by
      have := hk (i + 1) (by omega)
      rw [List.drop_drop]
      rwa [show 5 + i * 5 = (i + 1) * 5 by omega])
    refine ⟨x :: l, by simp [hl], ?_⟩
    rw [cat_cons, ← hx]
    rw [Nat.zero_mul, List.drop_zero] at he
    rw [← he, List.take_append_drop]
end Go.Proofs.Ytnocekhgabgffaa
end
