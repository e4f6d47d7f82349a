/- Any event: walked. No condition. -/
import Derived.Test.YtnocekhgabgffaaBuu
namespace Go.Proofs.Ytnocekhgabgffaa
open Go.RowKit
set_option linter.unusedVariables false
set_option maxHeartbeats 1000000

set_option maxRecDepth 100000
attribute [local go_sem ↓] append_appS copy_copS clear_clrS make_mkS slice_slS lookup_lookS mput_mputS del_mdelS cell_row frozen_row heap_drew heap_drewN heap_alloc heap_past heap_setCell heap_putRow heap_setB loadEv storeEv loadBe storeBe loadSp storeSp loadNw storeNw loadLine storeLine evc_kd evc_co evc_li evc_wo evc_va bec_fl bec_li bec_wo bec_va nwC_0 nwC_1 spC_0 spC_1
attribute [local go_sem] rowCell_some rowFrozen_some rowHas_some rowIn_some rowPart_full rowPart_lit rowPut_full rowPut_lit rowSet_some size_putRow size_setB run_loadS run_storeS run_appS run_copS run_clrS run_mkS run_slS run_lookS run_mputS run_mdelS loadW_at storeW_at fit_all fit_le one_int one_bool one_pointer one_slice allOne_list putRow_new ne_size1 ne_size2 ne_size3 ne_size4 wideEv wideBe wideSp wideNw wideLine evc_size evc_one evc_ne evc_lit evc_z fold_evc bec_size bec_one bec_lit bec_ne bec_at bec_in spC_size spC_one nwC_size nwC_one nwC_ne nwC_set0 nwC_set1 nwC_lit bec_set0 bec_set1 bec_set2 bec_set3 spC_set0 spC_set1 spC_lit fold_spC spC_ne fold_nwC fold_bec fold_at vs_size vs_one ic_size ic_get
attribute [local simp ↓] heap_drew heap_drewN heap_alloc heap_past heap_setCell heap_putRow heap_setB
attribute [local simp] rowCell_some rowFrozen_some rowHas_some rowIn_some rowPart_full rowPart_lit rowPut_full rowPut_lit rowSet_some size_putRow size_setB fit_all putRow_new ne_size1 ne_size2 ne_size3 ne_size4 evc_size bec_size spC_size nwC_size vs_size fit_le
theorem act_ans (S : Bs) (i l : Nat) (wo va : Int) : actB S ⟨6, i, l, wo, va⟩ = S.ansS i l := by
  have e : actB S ⟨6, i, l, wo, va⟩ = if (sentOf (S.core i) l).length = 0 ∨ (sentOf (S.core i) l).headD 0 = S.ps.getD l 0 then none else some (S.setC i ((S.core i).ansE l)) := rfl
  rw [e]
  unfold Bs.ansS
  cases h : sentOf (S.core i) l with
  | nil => simp
  | cons a r => simp
theorem stop_to {n m : Nat} {w : World} {q : Nat} {F : List Nat} {S : Bs} {K : FuncId} {args : Array Value} (_h : BusM n m w q F S) {i : Nat} (hc : Calls Try.prog K args w fun r w' => r = .returned (.bool (!(S.core i).st)) ∧ BusTo n m w q F (S.stopC i) w') {o : Option Bs} (ho : o = if !(S.core i).st then some (S.setC i { S.core i with st := true }) else none) : Calls Try.prog K args w fun r w' => r = .returned (.bool o.isSome) ∧ BusTo n m w q F (o.getD S) w' := by
  refine hc.mono ?_
  rintro r w' ⟨rfl, c⟩
  subst ho
  unfold Bs.stopC at c
  cases hs : (S.core i).st
  · rw [hs] at c; exact ⟨rfl, c⟩
  · rw [hs] at c; exact ⟨rfl, c⟩
theorem put_to {n m : Nat} {w : World} {q : Nat} {F : List Nat} {S : Bs} {K : FuncId} {args : Array Value} (_h : BusM n m w q F S) {i : Nat} {y : Be} (hc : Calls Try.prog K args w fun r w' => r = .returned (.bool (!(S.core i).st)) ∧ BusTo n m w q F (S.putC i y) w') {o : Option Bs} (ho : o = if !(S.core i).st then some (S.setC i ((S.core i).putE y)) else none) : Calls Try.prog K args w fun r w' => r = .returned (.bool o.isSome) ∧ BusTo n m w q F (o.getD S) w' := by
  refine hc.mono ?_
  rintro r w' ⟨rfl, c⟩
  subst ho
  unfold Bs.putC at c
  cases hs : (S.core i).st
  · rw [hs] at c; exact ⟨rfl, c⟩
  · rw [hs] at c; exact ⟨rfl, c⟩
section
variable {n m : Nat} {w : World} {q : Nat} {F : List Nat} {S : Bs}
theorem read_to {K : FuncId} {args : Array Value} (h : BusM n m w q F S) {b : Bool} (hc : Calls Try.prog K args w fun r w' => r = .returned (.bool b) ∧ Chg [] w w') {o : Option Bs} (ho : o = if b then some S else none) : Calls Try.prog K args w fun r w' => r = .returned (.bool o.isSome) ∧ BusTo n m w q F (o.getD S) w' := by
  refine hc.mono ?_
  rintro r w' ⟨rfl, c⟩
  subst ho
  cases b
  · exact ⟨rfl, h.to c⟩
  · exact ⟨rfl, h.to c⟩
theorem isOf_nat {a : Int} {k : Nat} (h : isOfB a k = true) : ∃ i : Nat, a = (i : Int) ∧ i < k := by
  unfold isOfB at h
  simp only [Bool.and_eq_true, decide_eq_true_eq] at h
  exact ⟨a.toNat, by omega, by omega⟩
theorem do_ev (h : BusM n m w q F S) {N : Nat} (ok : S.Ok n m N) (hN : N ≤ 1000000) (e : Ev) : Calls Try.prog 35 #[.pointer (some ⟨q, 0, none⟩), .agg (evc e)] w fun r w' => r = .returned (.bool (doB S e).isSome) ∧ BusTo n m w q F ((doB S e).getD S) w' := by
  obtain ⟨kd, co, li, wo, va⟩ := e
  by_cases hk : kindB kd = true
  rotate_left
  · have hk' : kindB kd = false := by simpa using hk
    rw [show doB S ⟨kd, co, li, wo, va⟩ = none by simp [doB, hk']]
    have hl : lookA kd kindL = none := by
      unfold kindB at hk'
      have : ¬ (1 ≤ kd ∧ kd ≤ 14) := by simpa using hk'
      simp only [lookA, kindL]
      repeat (rw [if_neg (by omega)])
    exact (do_none h ok kd co li wo va (.inl hl)).mono fun r w' ⟨h1, h2⟩ => ⟨h1, h.to h2⟩
  cases hh : hasB S ⟨kd, co, li, wo, va⟩
  · rw [show doB S ⟨kd, co, li, wo, va⟩ = none by simp [doB, hh]]
    exact (do_none h ok kd co li wo va (.inr hh)).mono fun r w' ⟨h1, h2⟩ => ⟨h1, h.to h2⟩
  rw [show doB S ⟨kd, co, li, wo, va⟩ = (actB S ⟨kd, co, li, wo, va⟩).map (fun T => lastB T ⟨kd, co, li, wo, va⟩) by simp [doB, hh, hk]]
  have fin : ∀ o : Option Bs, (o.map fun T => lastB T ⟨kd, co, li, wo, va⟩).isSome = o.isSome := fun o => by cases o <;> rfl
  rw [fin]
  have hkd : kd = 1 ∨ kd = 2 ∨ kd = 3 ∨ kd = 4 ∨ kd = 5 ∨ kd = 6 ∨ kd = 7 ∨ kd = 8 ∨ kd = 9 ∨ kd = 10 ∨ kd = 11 ∨ kd = 12 ∨ kd = 13 ∨ kd = 14 := by
    unfold kindB at hk
    have : 1 ≤ kd ∧ kd ≤ 14 := by simpa using hk
    omega
  have hh0 := hh
  unfold hasB at hh
  simp only [ok.cs, ok.ps, Bool.and_eq_true, Bool.or_eq_true, Bool.not_eq_true'] at hh
  obtain ⟨⟨hC, hL⟩, hW⟩ := hh
  clear fin hk
  rcases hkd with rfl | rfl | rfl | rfl | rfl | rfl | rfl | rfl | rfl | rfl | rfl | rfl | rfl | rfl
  · obtain ⟨i, rfl, hi⟩ := isOf_nat (hC.resolve_left (by simp [namesC]))
    obtain ⟨l, rfl, hl⟩ := isOf_nat (hL.resolve_left (by simp [namesL]))
    obtain ⟨o, rfl, ho⟩ := isOf_nat (hW.resolve_left (by simp [namesW]))
    exact do_some h ok _ _ _ _ _ (by rfl) (call_enter14 Try.func44 (by kernel_rfl) rfl) hh0 _ (fun w1 h1 => read_to h1 (load_ev h1 ok hi hl ho 1 va) (by simp [actB, Bs.core, Option.not_isSome])) (fun _ => ⟨i, rfl, hi⟩)
  · obtain ⟨i, rfl, hi⟩ := isOf_nat (hC.resolve_left (by simp [namesC]))
    obtain ⟨l, rfl, hl⟩ := isOf_nat (hL.resolve_left (by simp [namesL]))
    obtain ⟨o, rfl, ho⟩ := isOf_nat (hW.resolve_left (by simp [namesW]))
    exact do_some h ok _ _ _ _ _ (by rfl) (call_enter14 Try.func45 (by kernel_rfl) rfl) hh0 _ (fun w1 h1 => read_to h1 (own_ev h1 ok hi hl ho 2 va) (by simp [actB])) (fun _ => ⟨i, rfl, hi⟩)
  · obtain ⟨i, rfl, hi⟩ := isOf_nat (hC.resolve_left (by simp [namesC]))
    obtain ⟨l, rfl, hl⟩ := isOf_nat (hL.resolve_left (by simp [namesL]))
    obtain ⟨o, rfl, ho⟩ := isOf_nat (hW.resolve_left (by simp [namesW]))
    exact do_some h ok _ _ _ _ _ (by rfl) (call_enter14 Try.func46 (by kernel_rfl) rfl) hh0 _ (fun w1 h1 => by rw [show actB S ⟨3, i, l, o, va⟩ = S.storeS i l o va from rfl]; exact store_ev h1 ok hN hi hl ho 3 va) (fun _ => ⟨i, rfl, hi⟩)
  · obtain ⟨i, rfl, hi⟩ := isOf_nat (hC.resolve_left (by simp [namesC]))
    obtain ⟨l, rfl, hl⟩ := isOf_nat (hL.resolve_left (by simp [namesL]))
    obtain ⟨o, rfl, ho⟩ := isOf_nat (hW.resolve_left (by simp [namesW]))
    exact do_some h ok _ _ _ _ _ (by rfl) (call_enter14 Try.func47 (by kernel_rfl) rfl) hh0 _ (fun w1 h1 => read_to h1 (change_ev h1 ok hi hl ho 4 va) (by simp [actB])) (fun _ => ⟨i, rfl, hi⟩)
  · obtain ⟨l, rfl, hl⟩ := isOf_nat (hL.resolve_left (by simp [namesL]))
    exact do_some h ok _ _ _ _ _ (by rfl) (call_enter14 Try.func48 (by kernel_rfl) rfl) hh0 _ (fun w1 h1 => push_ev h1 ok hN hl 5 co wo va) (fun hn => by simp [namesC] at hn)
  · obtain ⟨i, rfl, hi⟩ := isOf_nat (hC.resolve_left (by simp [namesC]))
    obtain ⟨l, rfl, hl⟩ := isOf_nat (hL.resolve_left (by simp [namesL]))
    exact do_some h ok _ _ _ _ _ (by rfl) (call_enter14 Try.func49 (by kernel_rfl) rfl) hh0 _ (fun w1 h1 => by rw [show actB S ⟨6, i, l, wo, va⟩ = S.ansS i l from act_ans S i l wo va]; exact answer_ev h1 ok hN hi hl 6 wo va) (fun _ => ⟨i, rfl, hi⟩)
  · obtain ⟨i, rfl, hi⟩ := isOf_nat (hC.resolve_left (by simp [namesC]))
    exact do_some h ok _ _ _ _ _ (by rfl) (call_enter14 Try.func50 (by kernel_rfl) rfl) hh0 _ (fun w1 h1 => read_to h1 (fence_ev h1 hi 7 li wo va) (by simp [actB])) (fun _ => ⟨i, rfl, hi⟩)
  · obtain ⟨i, rfl, hi⟩ := isOf_nat (hC.resolve_left (by simp [namesC]))
    exact do_some h ok _ _ _ _ _ (by rfl) (call_enter14 Try.func51 (by kernel_rfl) rfl) hh0 _ (fun w1 h1 => read_to h1 (tell_ev h1 hi 8 li wo va) (by simp [actB])) (fun _ => ⟨i, rfl, hi⟩)
  · obtain ⟨i, rfl, hi⟩ := isOf_nat (hC.resolve_left (by simp [namesC]))
    exact do_some h ok _ _ _ _ _ (by rfl) (call_enter14 Try.func52 (by kernel_rfl) rfl) hh0 _ (fun w1 h1 => stop_to h1 (stop_ev h1 hi 9 li wo va) rfl) (fun _ => ⟨i, rfl, hi⟩)
  · obtain ⟨i, rfl, hi⟩ := isOf_nat (hC.resolve_left (by simp [namesC]))
    exact do_some h ok _ _ _ _ _ (by rfl) (call_enter14 Try.func52 (by kernel_rfl) rfl) hh0 _ (fun w1 h1 => stop_to h1 (stop_ev h1 hi 10 li wo va) rfl) (fun _ => ⟨i, rfl, hi⟩)
  · exact do_some h ok _ _ _ _ _ (by rfl) (call_enter14 Try.func53 (by kernel_rfl) rfl) hh0 _ (fun w1 h1 => fail_ev h1 ok _) (fun hn => by simp [namesC] at hn)
  · obtain ⟨i, rfl, hi⟩ := isOf_nat (hC.resolve_left (by simp [namesC]))
    obtain ⟨l, rfl, hl⟩ := isOf_nat (hL.resolve_left (by simp [namesL]))
    obtain ⟨o, rfl, ho⟩ := isOf_nat (hW.resolve_left (by simp [namesW]))
    exact do_some h ok _ _ _ _ _ (by rfl) (call_enter14 Try.func54 (by kernel_rfl) rfl) hh0 _ (fun w1 h1 => put_to h1 (issue_ev h1 ok hN hi 12 l o va) rfl) (fun _ => ⟨i, rfl, hi⟩)
  · obtain ⟨i, rfl, hi⟩ := isOf_nat (hC.resolve_left (by simp [namesC]))
    obtain ⟨l, rfl, hl⟩ := isOf_nat (hL.resolve_left (by simp [namesL]))
    exact do_some h ok _ _ _ _ _ (by rfl) (call_enter14 Try.func55 (by kernel_rfl) rfl) hh0 _ (fun w1 h1 => by rw [show actB S ⟨13, i, l, wo, va⟩ = S.sendS i l from rfl]; exact send_ev h1 ok hN hi hl 13 wo va) (fun _ => ⟨i, rfl, hi⟩)
  · obtain ⟨i, rfl, hi⟩ := isOf_nat (hC.resolve_left (by simp [namesC]))
    obtain ⟨l, rfl, hl⟩ := isOf_nat (hL.resolve_left (by simp [namesL]))
    exact do_some h ok _ _ _ _ _ (by rfl) (call_enter14 Try.func56 (by kernel_rfl) rfl) hh0 _ (fun w1 h1 => put_to h1 (want_ev h1 ok hN hi 14 l wo va) rfl) (fun _ => ⟨i, rfl, hi⟩)
end
end Go.Proofs.Ytnocekhgabgffaa
