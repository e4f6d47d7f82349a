/- An event that happens, or not: walked. No condition. -/
import Derived.Test.YtnocekhgabgffaaBuo
import Derived.Test.YtnocekhgabgffaaBuj
import Derived.Test.YtnocekhgabgffaaBuk
import Derived.Test.YtnocekhgabgffaaBul
import Derived.Test.YtnocekhgabgffaaBun
namespace Go.Proofs.Ytnocekhgabgffaa
open Go.RowKit
set_option linter.unusedVariables false
set_option maxHeartbeats 1000000

set_option maxRecDepth 100000
attribute [local go_sem ↓] append_appS copy_copS clear_clrS make_mkS slice_slS lookup_lookS mput_mputS del_mdelS cell_row frozen_row heap_drew heap_drewN heap_alloc heap_past heap_setCell heap_putRow heap_setB loadEv storeEv loadBe storeBe loadSp storeSp loadNw storeNw loadLine storeLine evc_kd evc_co evc_li evc_wo evc_va bec_fl bec_li bec_wo bec_va nwC_0 nwC_1 spC_0 spC_1
attribute [local go_sem] rowCell_some rowFrozen_some rowHas_some rowIn_some rowPart_full rowPart_lit rowPut_full rowPut_lit rowSet_some size_putRow size_setB run_loadS run_storeS run_appS run_copS run_clrS run_mkS run_slS run_lookS run_mputS run_mdelS loadW_at storeW_at fit_all fit_le one_int one_bool one_pointer one_slice allOne_list putRow_new ne_size1 ne_size2 ne_size3 ne_size4 wideEv wideBe wideSp wideNw wideLine evc_size evc_one evc_ne evc_lit evc_z fold_evc bec_size bec_one bec_lit bec_ne bec_at bec_in spC_size spC_one nwC_size nwC_one nwC_ne nwC_set0 nwC_set1 nwC_lit bec_set0 bec_set1 bec_set2 bec_set3 spC_set0 spC_set1 spC_lit fold_spC spC_ne fold_nwC fold_bec fold_at vs_size vs_one ic_size ic_get
attribute [local simp ↓] heap_drew heap_drewN heap_alloc heap_past heap_setCell heap_putRow heap_setB
attribute [local simp] rowCell_some rowFrozen_some rowHas_some rowIn_some rowPart_full rowPart_lit rowPut_full rowPut_lit rowSet_some size_putRow size_setB fit_all putRow_new ne_size1 ne_size2 ne_size3 ne_size4 evc_size bec_size spC_size nwC_size vs_size fit_le
theorem splice_left14 {α : Type} (A ys vs : List α) (o : Nat) : splice (A ++ ys) (A.length + o) vs = A ++ splice ys o vs := by
  unfold splice
  rw [List.take_append, List.take_of_length_le (by omega), Nat.add_sub_cancel_left, List.drop_append, List.drop_eq_nil_of_le (by omega), List.nil_append]
  rw [show A.length + o + vs.length - A.length = o + vs.length by omega]
  simp
theorem cx_last {xs : List Cx} {n : Nat} {x : Cx} (h : xs[n]? = some x) (e : Ev) (t : TypeId) (f : Nat × Nat) : rowPut (some (.cells (sq Cx.enc xs []) t f)) (n * 9 + 4) (evc e) = some (.cells (sq Cx.enc (xs.set n { x with la := e }) []) t f) := by
  obtain ⟨hn, rfl⟩ := List.getElem?_eq_some_iff.1 h
  have e1 : xs = xs.take n ++ xs[n] :: xs.drop (n + 1) := by rw [← List.drop_eq_getElem_cons hn, List.take_append_drop]
  have e2 : xs.set n { xs[n] with la := e } = xs.take n ++ { xs[n] with la := e } :: xs.drop (n + 1) := List.set_eq_take_append_cons_drop.trans (if_pos hn)
  have e3 : (cat Cx.enc (xs.take n)).length = n * 9 := by rw [cat_length Cx.len, List.length_take, Nat.min_eq_left (by omega)]
  have e4 : splice (Cx.enc xs[n]) 4 (Ev.enc e) = Cx.enc { xs[n] with la := e } := rfl
  rw [rowPut_some, sq_toList, show (evc e).toList = Ev.enc e by simp [evc]]
  congr 2
  unfold sq
  rw [List.append_nil, List.append_nil, e2]
  congr 1
  conv => lhs; rw [e1]
  rw [cat_append, cat_append, cat_cons, cat_cons, ← e3, splice_left14, splice_append _ _ _ _ (by rw [Cx.len]; exact Nat.le_refl _), e4]
theorem cx_hasEv {xs : List Cx} {n : Nat} (hn : n < xs.length) (t : TypeId) : rowHas (some (.cells (sq Cx.enc xs []) t (0, 0))) (n * 9 + 4) 5 = true := by
  have hm := mul_lt_of (k := 9) hn
  rw [rowHas_some, sq_size Cx.len]
  exact decide_eq_true (show _ ≤ _ by simp; omega)
theorem last_bus {n m : Nat} {w : World} {q : Nat} {F : List Nat} {S : Bs} {bl cl kb bp bc bm : Nat} {xs : List Cx} {G : List (List Nat)} (P : BusP n m w q F S bl cl kb bp bc bm xs G) {i : Nat} (hi : i < m) (e : Ev) {w' : World} (hw : w' = putRow w bc (i * 9 + 4) (evc e)) : BusTo n m w q F (S.setC i { S.core i with la := e }) w' := by
  subst hw
  obtain ⟨x, g, hco, hg, hcs⟩ := P.core hi
  have c4 : Chg [bc] w (putRow w bc (i * 9 + 4) (evc e)) := (Chg.refl [bc] w).putRow _ _ _ (.inl (by simp))
  have ht : CoTo w bc i xs g { S.core i with la := e } (putRow w bc (i * 9 + 4) (evc e)) := by
    refine ⟨{ x with la := e }, g, ?_, (hco.co.la_ e).keep c4 (fun b hb => ?_), hco.nd, fun b hb => .inl hb, c4.mono (by simp)⟩
    · rw [heap_putRow _ _ _ _ _ (by rw [hco.hb, evc_size]; exact cx_hasEv (List.getElem?_eq_some_iff.1 hco.hx).1 _), if_pos rfl, hco.hb, cx_last hco.hx]
    · simp; rintro rfl; exact hco.nb hb
  obtain ⟨F', xs', G', p1, p2, p3⟩ := P.setc hg ht
  exact ⟨F', ⟨_, _, _, _, _, _, _, _, p1⟩, p2, p3⟩
theorem call_enter14 {P : Program} {f : FuncId} {fn : Func} {c : Code} (hf : P.funcs[f]? = some fn) (hname : (fn.name == "runtime.NumGoroutine") = false) (hb : fn.body = some c) (args : Array Value) (w : World) :
    (callFunc f args).run P w = .ok (.enter f args) w := by
  have h1 : fn.name ≠ "runtime.NumGoroutine" := by simpa using hname
  simp [callFunc, hf, h1, hb]
theorem look_kind {o : Obj} (ho : IsMapO (fun k : Int => Value.int .i64 k) o kindL) (bm : Nat) (k : Int) : ∀ w', w'.heap[bm]? = some o → lookR Try.prog 87 (.map (some bm)) (.int .i64 k) true w' = .ok (.tuple #[(lookA k kindL).getD .nilFunc, .bool (lookA k kindL).isSome]) w' := fun w' h =>
  lookR_ok key_int Try.underlying87 zero_doing ho k w' h
section
variable {n m : Nat} {w : World} {q : Nat} {F : List Nat} {S : Bs}
theorem do_none (h : BusM n m w q F S) {N : Nat} (ok : S.Ok n m N) (kd co li wo va : Int) (hk : lookA kd kindL = none ∨ hasB S ⟨kd, co, li, wo, va⟩ = false) : Calls Try.prog 35 #[.pointer (some ⟨q, 0, none⟩), .agg (evc ⟨kd, co, li, wo, va⟩)] w fun r w' => r = .returned (.bool false) ∧ Chg [] w w' := by
  obtain ⟨n1, n2⟩ := one_new w (.cells (evc ⟨kd, co, li, wo, va⟩) 41)
  have hM := h.keep n2 (by simp)
  have N2 := Lib.hid n2
  clear n2 h
  go_enter Try.func35, Try.ntmps35
  go_upto_region 1 with fail
  generalize w.alloc (.cells (evc ⟨kd, co, li, wo, va⟩) 41) = w1 at *
  generalize w.heap.size = p at *
  have HM := Lib.hid hM
  obtain ⟨bl, cl, kb, bp, bc, bm, xs, G, P⟩ := hM
  have hq := P.hq
  unfold busc at hq
  obtain ⟨om, hom, hmm⟩ := P.hm
  have hlk := look_kind hmm bm kd
  clear P
  cases hl : lookA kd kindL with
  | none =>
    rw [hl] at hlk
    simp only [Option.getD_none, Option.isSome_none] at hlk
    go_upto_region 3 with fail
    go_region
    go_wp2_with fail
    go_ret
    exact ⟨rfl, N2.out.drew⟩
  | some f =>
    have hh : hasB S ⟨kd, co, li, wo, va⟩ = false := by
      rcases hk with h | h
      · rw [hl] at h; cases h
      · exact h
    rw [hl] at hlk
    simp only [Option.getD_some, Option.isSome_some] at hlk
    go_upto_region 3 with fail
    go_region
    go_wp2_with (go_at_call 57; refine (has_ev (HM.out.keep ((Chg.refl [] w1).drew) (by simp)) ok _ _ _ _ _).mono ?_; rintro e w3 ⟨rfl, c3⟩; rw [hh]; have C3 := Lib.hid c3; clear c3)
    go_ret
    exact ⟨rfl, N2.out.drew.trans C3.out⟩
theorem do_some (h : BusM n m w q F S) {N : Nat} (ok : S.Ok n m N) (kd co li wo va : Int) {K : FuncId} (hl : lookA kd kindL = some (kfn K)) (hcall : ∀ (args : Array Value) (W : World), (callFunc K args).run Try.prog W = .ok (.enter K args) W) (hh : hasB S ⟨kd, co, li, wo, va⟩ = true) (o : Option Bs)
    (hf : ∀ w1, BusM n m w1 q F S → Calls Try.prog K #[.pointer (some ⟨q, 0, none⟩), .agg (evc ⟨kd, co, li, wo, va⟩)] w1 fun r w' => r = .returned (.bool o.isSome) ∧ BusTo n m w1 q F (o.getD S) w') (hlast : namesC kd = true → ∃ i : Nat, co = (i : Int) ∧ i < m) :
    Calls Try.prog 35 #[.pointer (some ⟨q, 0, none⟩), .agg (evc ⟨kd, co, li, wo, va⟩)] w fun r w' => r = .returned (.bool o.isSome) ∧ BusTo n m w q F ((o.map fun T => lastB T ⟨kd, co, li, wo, va⟩).getD S) w' := by
  obtain ⟨n1, n2⟩ := one_new w (.cells (evc ⟨kd, co, li, wo, va⟩) 41)
  have hM := h.keep n2 (by simp)
  have hpF : w.heap.size ∉ F := fun hz => by have := h.old _ hz; omega
  have N2 := Lib.hid n2
  clear n2 h
  go_enter Try.func35, Try.ntmps35
  go_upto_region 1 with fail
  generalize w.alloc (.cells (evc ⟨kd, co, li, wo, va⟩) 41) = w1 at *
  generalize w.heap.size = p at *
  have HM := Lib.hid hM
  obtain ⟨bl, cl, kb, bp, bc, bm, xs, G, P⟩ := hM
  have hq := P.hq
  unfold busc at hq
  obtain ⟨om, hom, hmm⟩ := P.hm
  have hlk := look_kind hmm bm kd
  rw [hl] at hlk
  simp only [Option.getD_some, Option.isSome_some, kfn] at hlk
  have HPF := Lib.hid hpF
  clear P hmm hpF
  go_upto_region 3 with fail
  go_region
  have D3 := Lib.hid ((Chg.refl [] w1).drew)
  have n3 : w1.drew.heap[p]? = some (.cells (evc ⟨kd, co, li, wo, va⟩) 41 (0, 0)) := n1
  have HM3 := Lib.hid (HM.out.keep D3.out (by simp))
  clear n1 hq hom hlk HM
  generalize w1.drew = w3 at *
  cases o with
  | none =>
    go_wp2_with (first | (go_at_call 57; refine (has_ev HM3.out ok _ _ _ _ _).mono ?_; rintro e w4 ⟨rfl, c4⟩; rw [hh]; have n4 := c4.keep n3 (by simp); have HM4 := Lib.hid (HM3.out.keep c4 (by simp)); have C4 := Lib.hid c4; clear c4) | (refine (hf _ HM4.out).mono ?_; rintro e w5 ⟨rfl, h5⟩; have H5 := Lib.hid h5; clear h5))
    go_ret
    exact ⟨rfl, ((H5.out.of C4.out).of D3.out).of N2.out⟩
  | some T =>
    have hf' : ∀ w1, BusM n m w1 q F S → Calls Try.prog K #[.pointer (some ⟨q, 0, none⟩), .agg (evc ⟨kd, co, li, wo, va⟩)] w1 fun r w' => r = .returned (.bool true) ∧ BusTo n m w1 q F T w' := hf
    clear hf
    cases hn : namesC kd
    · go_wp2_with (first | (go_at_call 57; refine (has_ev HM3.out ok _ _ _ _ _).mono ?_; rintro e w4 ⟨rfl, c4⟩; rw [hh]; have n4 := c4.keep n3 (by simp); have HM4 := Lib.hid (HM3.out.keep c4 (by simp)); have C4 := Lib.hid c4; clear c4) | (go_at_call 58; refine (namesc_any _ _).mono ?_; rintro e w6 ⟨rfl, rfl⟩; rw [hn]) | (refine (hf' _ HM4.out).mono ?_; rintro e w5 ⟨rfl, h5⟩; have n5 : w5.heap[p]? = some (.cells (evc ⟨kd, co, li, wo, va⟩) 41 (0, 0)) := by { obtain ⟨_, _, c5, _⟩ := h5; exact c5.keep n4 HPF.out }; have H5 := Lib.hid h5; clear h5))
      go_ret
      refine ⟨rfl, ?_⟩
      rw [show ((some T).map fun T => lastB T ⟨kd, co, li, wo, va⟩).getD S = T by simp [lastB, hn]]
      exact ((H5.out.of C4.out).of D3.out).of N2.out
    · obtain ⟨i, rfl, hi⟩ := hlast hn
      go_upto_region 7 with (first | (go_at_call 57; refine (has_ev HM3.out ok _ _ _ _ _).mono ?_; rintro e w4 ⟨rfl, c4⟩; rw [hh]; have n4 := c4.keep n3 (by simp); have HM4 := Lib.hid (HM3.out.keep c4 (by simp)); have C4 := Lib.hid c4; clear c4) | (go_at_call 58; refine (namesc_any _ _).mono ?_; rintro e w6 ⟨rfl, rfl⟩; rw [hn]) | (refine (hf' _ HM4.out).mono ?_; rintro e w5 ⟨rfl, h5⟩; have n5 : w5.heap[p]? = some (.cells (evc ⟨kd, i, li, wo, va⟩) 41 (0, 0)) := by { obtain ⟨_, _, c5, _⟩ := h5; exact c5.keep n4 HPF.out }; have H5 := Lib.hid h5; clear h5))
      obtain ⟨F5, ⟨bl5, cl5, kb5, bp5, bc5, bm5, xs5, G5, P5⟩, c5, f5⟩ := H5.out
      have hq5 := P5.hq
      unfold busc at hq5
      have hb5 := P5.hc
      have hx5 : i < xs5.length := by rw [P5.lx]; exact hi
      have hev := cx_hasEv hx5 111
      have i0 : (0 : Int) ≤ (i : Int) := by omega
      have i1 : (i : Int) < (m : Int) := by omega
      have HP5 := Lib.hid P5
      have C5 := Lib.hid c5
      have F5' := Lib.hid f5
      clear P5 c5 f5 H5 n4 n3 hx5
      go_region
      go_wp2_with fail
      go_ret
      refine ⟨rfl, ?_⟩
      have e0 : ((some T).map fun T => lastB T ⟨kd, i, li, wo, va⟩).getD S = T.setC i { T.core i with la := ⟨kd, i, li, wo, va⟩ } := by
        simp [lastB, hn, Bs.last]
      rw [e0]
      have := last_bus (HP5.out.keep ((Chg.refl [] w5).drew) (by simp)) hi ⟨kd, i, li, wo, va⟩ rfl
      exact ((((this.of ((Chg.refl [] w5).drew)).on C5.out F5'.out).of C4.out).of D3.out).of N2.out
end
end Go.Proofs.Ytnocekhgabgffaa
