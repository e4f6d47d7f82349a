/- A store that all see: walked. No condition. -/
import Derived.Test.YtnocekhgabgffaaBug
namespace Go.Proofs.Ytnocekhgabgffaa
open Go.RowKit
set_option linter.unusedVariables false
set_option maxHeartbeats 1000000

set_option maxRecDepth 100000
attribute [local go_sem ↓] append_appS copy_copS clear_clrS make_mkS slice_slS lookup_lookS mput_mputS del_mdelS cell_row frozen_row heap_drew heap_drewN heap_alloc heap_past heap_setCell heap_putRow heap_setB loadEv storeEv loadBe storeBe loadSp storeSp loadNw storeNw loadLine storeLine evc_kd evc_co evc_li evc_wo evc_va bec_fl bec_li bec_wo bec_va nwC_0 nwC_1 spC_0 spC_1
attribute [local go_sem] rowCell_some rowFrozen_some rowHas_some rowIn_some rowPart_full rowPart_lit rowPut_full rowPut_lit rowSet_some size_putRow size_setB run_loadS run_storeS run_appS run_copS run_clrS run_mkS run_slS run_lookS run_mputS run_mdelS loadW_at storeW_at fit_all fit_le one_int one_bool one_pointer one_slice allOne_list putRow_new ne_size1 ne_size2 ne_size3 ne_size4 wideEv wideBe wideSp wideNw wideLine evc_size evc_one evc_ne evc_lit evc_z fold_evc bec_size bec_one bec_lit bec_ne bec_at bec_in spC_size spC_one nwC_size nwC_one nwC_ne nwC_set0 nwC_set1 nwC_lit bec_set0 bec_set1 bec_set2 bec_set3 spC_set0 spC_set1 spC_lit fold_spC spC_ne fold_nwC fold_bec fold_at vs_size vs_one ic_size ic_get
attribute [local simp ↓] heap_drew heap_drewN heap_alloc heap_past heap_setCell heap_putRow heap_setB
attribute [local simp] rowCell_some rowFrozen_some rowHas_some rowIn_some rowPart_full rowPart_lit rowPut_full rowPut_lit rowSet_some size_putRow size_setB fit_all putRow_new ne_size1 ne_size2 ne_size3 ne_size4 evc_size bec_size spC_size nwC_size vs_size fit_le
theorem bk_set (xs : List Int) (r : List Value) (j : Nat) (v : Int) (h : j < xs.length) : (bk xs r).setIfInBounds j (.int .u64 v) = bk (xs.set j v) r := by
  unfold bk
  rw [List.setIfInBounds_toArray, List.set_append_left _ _ (by simpa using h), List.map_set]
section
variable {n m : Nat} {w : World} {q : Nat} {F : List Nat} {S : Bs}
def Bs.storeS (S : Bs) (i l o : Nat) (va : Int) : Option Bs :=
  match (S.core i).takeE ⟨false, l, o, va⟩ with
  | some c' => some ((S.setC i c').setW l o va)
  | none => if (S.core i).locks l o then some (S.setW l o va) else none
/-- The last part of a store: all see it. -/
theorem setW_bus {n m : Nat} {w : World} {q : Nat} {F : List Nat} {S : Bs} {bl cl kb bp bc bm : Nat} {xs : List Cx} {G : List (List Nat)} (P : BusP n m w q F S bl cl kb bp bc bm xs G) {l o : Nat} (h : l * 8 + o < S.ls.length) (va : Int) {w' : World} (hw : w' = w.setCell ⟨bl, l * 8 + o, none⟩ (.int .u64 va)) : BusTo n m w q F (S.setW l o va) w' := by
  subst hw
  have c : Chg [bl] w (w.setCell ⟨bl, l * 8 + o, none⟩ (.int .u64 va)) := (Chg.refl [bl] w).setCell _ _ _ (.inl (by simp))
  obtain ⟨r, hr⟩ := P.hl
  refine ⟨F, ⟨_, _, _, _, _, _, _, _, P.setl c ⟨r, ?_⟩⟩, c.mono (fun z hz => .inl ?_), fun b hb => .inl hb⟩
  · rw [heap_setCell, if_pos rfl, hr, rowSet_some, bk_set _ _ _ _ h]
  · simp only [List.mem_singleton] at hz; subst hz; exact P.mem _ (by simp)
theorem store_ev (h : BusM n m w q F S) {N : Nat} (ok : S.Ok n m N) (hN : N ≤ 1000000) {i l o : Nat} (hi : i < m) (hl : l < n) (ho : o < 8) (kd va : Int) : Calls Try.prog 46 #[.pointer (some ⟨q, 0, none⟩), .agg (evc ⟨kd, i, l, o, va⟩)] w fun r w' => r = .returned (.bool (S.storeS i l o va).isSome) ∧ BusTo n m w q F ((S.storeS i l o va).getD S) w' := by
  obtain ⟨bl, cl, kb, bp, bc, bm, xs, G, P0⟩ := h
  obtain ⟨n1, n2⟩ := one_new w (.cells (evc ⟨kd, i, l, o, va⟩) 41)
  have P := P0.keep n2 (by simp)
  have hpF : ∀ z ∈ F, z ≠ w.heap.size := fun z hz e => by have := P0.old z hz; omega
  have N2 := Lib.hid n2
  clear n2 P0
  go_enter Try.func46, Try.ntmps46
  go_upto_region 1 with fail
  generalize w.alloc (.cells (evc ⟨kd, i, l, o, va⟩) 41) = w1 at *
  generalize w.heap.size = p at *
  have hq := P.hq
  unfold busc at hq
  obtain ⟨x, g, hco, hg, hcs⟩ := P.core hi
  have hcb := hco.hb
  obtain ⟨c0, c1, c2, c3, c4, c5, c6, c7, c8⟩ := cx_cells hco.hx
  rw [hco.co.st] at c3
  have i0 : (0 : Int) ≤ (i : Int) := by omega
  have i1 : (i : Int) < (m : Int) := by omega
  have HS := Lib.hid (ok.cb _ (List.mem_of_getElem? hcs))
  have HCO := Lib.hid hco
  have HP := Lib.hid P
  have l0 : (0 : Int) ≤ (l : Int) := by omega
  have l1 : (l : Int) < (n : Int) := by omega
  have o0 : (0 : Int) ≤ (o : Int) := by omega
  have o1 : (o : Int) < 8 := by omega
  have hlo : l * 8 + o < S.ls.length := by have := ok.ls; omega
  have HLO := Lib.hid hlo
  clear P hco hcs ok hlo
  go_quiet (fail)
  have D := (Chg.refl [] w1).drewN nq
  have N3 := Lib.hid (N2.out.trans D)
  have P2 := HP.out.keep D (by simp)
  have HC3 := Lib.hid (HCO.out.keep D (by simp) (by simp))
  have n1 := D.keep n1 (by simp)
  clear D N2 HP hq HCO hcb
  generalize w1.drewN nq = w2 at *
  have HP2 := Lib.hid P2
  have hpg : p ∉ bc :: g := fun h => by
    rcases List.mem_cons.1 h with rfl | h
    · exact hpF p (P2.mem p (by simp)) rfl
    · exact hpF p (P2.per.mem_iff.2 (List.mem_append.2 (.inr (List.mem_flatten.2 ⟨g, List.mem_of_getElem? hg, h⟩)))) rfl
  have HPG := Lib.hid hpg
  clear P2 hpg
  cases htk : (S.core i).takeE (storeOf ⟨kd, i, l, o, va⟩) with
  | some c' =>
    go_upto_if 2 with (first | (go_at_call 63; refine (storeof_any _ _).mono ?_; rintro e w3 ⟨rfl, c3⟩; have n3 := c3.keep n1 (by simp); have C3 := Lib.hid c3; clear c3) | (go_at_call 62; refine (take_any (HC3.out.keep C3.out (by simp) (by simp)) HS.out hN _).mono ?_; rintro e w4 ⟨rfl, ht⟩; rw [htk]; have HT := Lib.hid ht; clear ht))
    have ht : CoTo w3 bc i xs g c' w4 := by
      rcases HT.out with ⟨c2, h1, h2⟩ | ⟨h1, _⟩
      · rw [htk] at h1; cases h1; exact h2
      · rw [htk] at h1; cases h1
    have hcg : Chg (bc :: g) w3 w4 := by obtain ⟨_, _, _, _, _, _, h⟩ := ht; exact h
    have n4 := hcg.keep n3 HPG.out
    obtain ⟨F4, xs4, G4, P4, q4, f4⟩ := (HP2.out.keep C3.out (by simp)).setc hg ht
    have Q4 := Lib.hid q4
    have FF4 := Lib.hid f4
    have HTK := Lib.hid htk
    clear ht hcg HT n1 n3 hg q4 f4 htk c0 c1 c2 c4 c5 c6 c7 c8 hpF HPG HC3 HS HP2
    have hq4 := P4.hq
    unfold busc at hq4
    obtain ⟨r4, hl4⟩ := P4.hl
    rw [show (S.setC i c').ls = S.ls from rfl] at hl4
    have hv4 : ∃ v0, (bk S.ls r4)[l * 8 + o]? = some (.int .u64 v0) := by
      refine ⟨S.ls[l * 8 + o]'HLO.out, ?_⟩
      unfold bk
      rw [List.getElem?_toArray, List.getElem?_append_left (by simpa using HLO.out), List.getElem?_map, List.getElem?_eq_getElem HLO.out]
      rfl
    obtain ⟨v0, hv4⟩ := hv4
    have HP4 := Lib.hid P4
    clear P4
    go_region
    go_wp2_with fail
    go_ret
    have e0 : S.storeS i l o va = some ((S.setC i c').setW l o va) := by
      unfold Bs.storeS
      rw [show (S.core i).takeE ⟨false, l, o, va⟩ = some c' from HTK.out]
    rw [e0]
    refine ⟨rfl, ?_⟩
    exact (((setW_bus (HP4.out.keep ((Chg.refl [] w4).drew) (by simp)) HLO.out va rfl).of ((Chg.refl [] w4).drew)).on Q4.out FF4.out |>.of C3.out).of N3.out

  | none =>
    cases hlk : (S.core i).locks l o
    · go_wp2_with (first | (go_at_call 63; refine (storeof_any _ _).mono ?_; rintro e w3 ⟨rfl, c3⟩; have n3 := c3.keep n1 (by simp); have C3 := Lib.hid c3; clear c3) | (go_at_call 62; refine (take_any (HC3.out.keep C3.out (by simp) (by simp)) HS.out hN _).mono ?_; rintro e w4 ⟨rfl, ht⟩; have c4 : Chg [] w3 w4 := by { rcases ht with ⟨c2, h1, h2⟩ | ⟨_, h1⟩; { rw [htk] at h1; cases h1 }; { exact h1 } }; clear ht; rw [htk]; have n4 := c4.keep n3 (by simp); have C4 := Lib.hid (C3.out.trans c4); clear c4) | (go_at_call 60; refine (spotof_any _ _).mono ?_; rintro e w5 ⟨rfl, c5⟩; have n5 := c5.keep n4 (by simp); have C5 := Lib.hid (C4.out.trans c5); clear c5) | (go_at_call 64; refine (locks_any (HC3.out.keep C5.out (by simp) (by simp)) _ _).mono ?_; rintro e w6 ⟨rfl, c6⟩; rw [hlk]; have n6 := c6.keep n5 (by simp); have C6 := Lib.hid (C5.out.trans c6); clear c6))
      go_ret
      have e0 : S.storeS i l o va = none := by
        unfold Bs.storeS
        rw [show (S.core i).takeE ⟨false, l, o, va⟩ = none from htk, hlk]; rfl
      rw [e0]
      exact ⟨rfl, ((show BusM n m w2 q F S from ⟨_, _, _, _, _, _, _, _, HP2.out⟩).to C6.out).of N3.out⟩
    · go_upto_if 2 with (first | (go_at_call 63; refine (storeof_any _ _).mono ?_; rintro e w3 ⟨rfl, c3⟩; have n3 := c3.keep n1 (by simp); have C3 := Lib.hid c3; clear c3) | (go_at_call 62; refine (take_any (HC3.out.keep C3.out (by simp) (by simp)) HS.out hN _).mono ?_; rintro e w4 ⟨rfl, ht⟩; have c4 : Chg [] w3 w4 := by { rcases ht with ⟨c2, h1, h2⟩ | ⟨_, h1⟩; { rw [htk] at h1; cases h1 }; { exact h1 } }; clear ht; rw [htk]; have n4 := c4.keep n3 (by simp); have C4 := Lib.hid (C3.out.trans c4); clear c4) | (go_at_call 60; refine (spotof_any _ _).mono ?_; rintro e w5 ⟨rfl, c5⟩; have n5 := c5.keep n4 (by simp); have C5 := Lib.hid (C4.out.trans c5); clear c5) | (go_at_call 64; refine (locks_any (HC3.out.keep C5.out (by simp) (by simp)) _ _).mono ?_; rintro e w6 ⟨rfl, c6⟩; rw [hlk]; have n6 := c6.keep n5 (by simp); have C6 := Lib.hid (C5.out.trans c6); clear c6))
      have P4 := HP2.out.keep C6.out (by simp)
      have HTK := Lib.hid htk
      have HLK := Lib.hid hlk
      clear n1 n3 n4 n5 hg htk hlk c0 c1 c2 c4 c5 c6 c7 c8 hpF HPG HC3 HS HP2
      have hq4 := P4.hq
      unfold busc at hq4
      obtain ⟨r4, hl4⟩ := P4.hl
      have hv4 : ∃ v0, (bk S.ls r4)[l * 8 + o]? = some (.int .u64 v0) := by
        refine ⟨S.ls[l * 8 + o]'HLO.out, ?_⟩
        unfold bk
        rw [List.getElem?_toArray, List.getElem?_append_left (by simpa using HLO.out), List.getElem?_map, List.getElem?_eq_getElem HLO.out]
        rfl
      obtain ⟨v0, hv4⟩ := hv4
      have HP4 := Lib.hid P4
      clear P4
      go_region
      go_wp2_with fail
      go_ret
      have e0 : S.storeS i l o va = some (S.setW l o va) := by
        unfold Bs.storeS
        rw [show (S.core i).takeE ⟨false, l, o, va⟩ = none from HTK.out, HLK.out]; rfl
      rw [e0]
      refine ⟨rfl, ?_⟩
      exact (((setW_bus (HP4.out.keep ((Chg.refl [] w6).drew) (by simp)) HLO.out va rfl).of ((Chg.refl [] w6).drew)).of C6.out).of N3.out

end
end Go.Proofs.Ytnocekhgabgffaa
