/- Events that read a word: walked. No condition. -/
import Derived.Test.YtnocekhgabgffaaBue
namespace Go.Proofs.Ytnocekhgabgffaa
open Go.RowKit
set_option linter.unusedVariables false
set_option maxHeartbeats 1000000

set_option maxRecDepth 100000
attribute [local go_sem ↓] append_appS copy_copS clear_clrS make_mkS slice_slS lookup_lookS mput_mputS del_mdelS cell_row frozen_row heap_drew heap_drewN heap_alloc heap_past heap_setCell heap_putRow heap_setB loadEv storeEv loadBe storeBe loadSp storeSp loadNw storeNw loadLine storeLine evc_kd evc_co evc_li evc_wo evc_va bec_fl bec_li bec_wo bec_va nwC_0 nwC_1 spC_0 spC_1
attribute [local go_sem] rowCell_some rowFrozen_some rowHas_some rowIn_some rowPart_full rowPart_lit rowPut_full rowPut_lit rowSet_some size_putRow size_setB run_loadS run_storeS run_appS run_copS run_clrS run_mkS run_slS run_lookS run_mputS run_mdelS loadW_at storeW_at fit_all fit_le one_int one_bool one_pointer one_slice allOne_list putRow_new ne_size1 ne_size2 ne_size3 ne_size4 wideEv wideBe wideSp wideNw wideLine evc_size evc_one evc_ne evc_lit evc_z fold_evc bec_size bec_one bec_lit bec_ne bec_at bec_in spC_size spC_one nwC_size nwC_one nwC_ne nwC_set0 nwC_set1 nwC_lit bec_set0 bec_set1 bec_set2 bec_set3 spC_set0 spC_set1 spC_lit fold_spC spC_ne fold_nwC fold_bec fold_at vs_size vs_one ic_size ic_get
attribute [local simp ↓] heap_drew heap_drewN heap_alloc heap_past heap_setCell heap_putRow heap_setB
attribute [local simp] rowCell_some rowFrozen_some rowHas_some rowIn_some rowPart_full rowPart_lit rowPut_full rowPut_lit rowSet_some size_putRow size_setB fit_all putRow_new ne_size1 ne_size2 ne_size3 ne_size4 evc_size bec_size spC_size nwC_size vs_size fit_le
section
variable {n m : Nat} {w : World} {q : Nat} {F : List Nat} {S : Bs}
theorem field_nw1 (a v : Int) (w : World) : (Instr.field 118 (.agg (nwC a v)) 1).run Try.prog w = .ok (.int .u64 v) w := by kernel_rfl
theorem look_ok {ms : Nat} {sm : List ((Int × Int) × (Int × Int))} {o : Obj} (ho : IsMapO spV o (onA nwV sm)) (l wo : Int) :
    (∀ w', w'.heap[ms]? = some o → lookR Try.prog 107 (.map (some ms)) (.agg (spC l wo)) true w' = .ok (.tuple #[.agg (nwC (newO sm (l, wo)).1 (newO sm (l, wo)).2), .bool (lookA (l, wo) sm).isSome]) w') := by
  intro w' h
  have := lookR_ok spot_keyE Try.underlying107 zero_new ho (l, wo) w' h
  rw [lookA_on] at this
  refine this.trans ?_
  unfold newO
  cases lookA (l, wo) sm <;> rfl
theorem load_ev (h : BusM n m w q F S) {N : Nat} (ok : S.Ok n m N) {i l o : Nat} (hi : i < m) (hl : l < n) (ho : o < 8) (kd va : Int) : Calls Try.prog 44 #[.pointer (some ⟨q, 0, none⟩), .agg (evc ⟨kd, i, l, o, va⟩)] w fun r w' => r = .returned (.bool ((!(S.core i).st && (!(lookA ((l : Int), (o : Int)) (S.core i).sm).isSome && S.word l o == va)))) ∧ Chg [] w w' := by
  obtain ⟨bl, cl, kb, bp, bc, bm, xs, G, P0⟩ := h
  obtain ⟨n1, n2⟩ := one_new w (.cells (evc ⟨kd, i, l, o, va⟩) 41)
  have P := P0.keep n2 (by simp)
  have hpF : ∀ z ∈ F, z ≠ w.heap.size := fun z hz e => by have := P0.old z hz; omega
  have N2 := Lib.hid n2
  clear n2 P0
  go_enter Try.func44, Try.ntmps44
  go_upto_region 1 with fail
  generalize w.alloc (.cells (evc ⟨kd, i, l, o, va⟩) 41) = w1 at *
  generalize w.heap.size = p at *
  have hq := P.hq
  unfold busc at hq
  obtain ⟨x, g, hco, hg, hcs⟩ := P.core hi
  have hcb := hco.hb
  obtain ⟨c0, c1, c2, c3, c4, c5, c6, c7, c8⟩ := cx_cells hco.hx
  rw [hco.co.st] at c3
  have i0 : (0 : Int) ≤ (i : Int) := by omega
  have i1 : (i : Int) < (m : Int) := by omega
  have hne : x.ms ∈ g := by
    obtain ⟨_, _, _, Fb, hs', hF, _⟩ := hco.co
    exact hF.mem_iff.2 (by simp)
  have hbq : bc ≠ p := hpF bc (P.mem bc (by simp))
  obtain ⟨_, _, _, Fb, hs', hF, _, ⟨om, hom, hmm⟩, _⟩ := hco.co
  have hlk := look_ok (ms := x.ms) hmm l o
  generalize hnw : newO (S.core i).sm ((l : Int), (o : Int)) = nw at *
  generalize hsm : (lookA ((l : Int), (o : Int)) (S.core i).sm).isSome = has at *
  generalize hst : (S.core i).st = st at *
  have HNW := Lib.hid hnw
  have HSM := Lib.hid hsm
  have HST := Lib.hid hst
  have HP := Lib.hid (show BusM n m w1 q F S from ⟨bl, cl, kb, bp, bc, bm, xs, G, P⟩)
  have fnw := field_nw1 nw.1 nw.2
  clear P hco hcs hnw hsm hst hmm hF hg
  go_quiet (fail)
  have D := (Chg.refl [] w1).drewN nq
  have N3 := Lib.hid (N2.out.trans D)
  have HP3 := Lib.hid (HP.out.keep D (by simp))
  have n1 := D.keep n1 (by simp)
  have hcb := D.keep hcb (by simp)
  have hom := D.keep hom (by simp)
  clear D N2 HP hq
  generalize w1.drewN nq = w2 at *
  go_upto_region 2 with fail
  go_region_law (first | (go_simp; go_at_call 60; refine (spotof_any _ _).mono ?_; rintro v w3 ⟨rfl, c3⟩; (try have r3 : w3.heap[w2.heap.size]? = some (.cells (nwC 0 0) 118 (0, 0)) := c3.keep (by first | exact (MapKept.heap_alloc w2 _).1) (by simp)); have d3 : Chg [] w2 w3 := Chg.trans (by first | exact Chg.refl [] w2 | exact (Chg.refl [] w2).drew | exact ((Chg.refl [] w2).alloc _).drew | exact ((Chg.refl [] w2).drew).alloc _) c3; have hcb3 := d3.keep hcb (by simp); have hom3 := d3.keep hom (by simp); have n3 := d3.keep n1 (by simp); have D3 := Lib.hid d3; clear c3 d3))
  all_goals
    first
    | (refine world_cut (fun w5 => w5.heap[w2.heap.size]? = some (.cells (nwC nw.1 nw.2) 118 (0, 0)) ∧ Chg [] w2 w5) ⟨put_new r3 (by simp [nwC_size]), D3.out.putRow _ _ _ (.inr (Nat.le_refl _))⟩ ?_
       generalize w2.heap.size = r at *)
    | (refine world_cut (fun w5 => w5.heap[w3.heap.size]? = some (.cells (nwC nw.1 nw.2) 118 (0, 0)) ∧ Chg [] w2 w5) ⟨(MapKept.heap_alloc w3 _).1, D3.out.alloc _⟩ ?_
       generalize w3.heap.size = r at *)
    rintro w5 ⟨r5, c5⟩
    have hcb5 := c5.keep hcb (by simp)
    have n5 := c5.keep n1 (by simp)
    have HM5 := Lib.hid (HP3.out.keep c5 (by simp))
    have C5 := Lib.hid (N3.out.trans c5)
    clear c5 hcb3 hom3 n3 D3 hcb n1 hom HP3 N3 hlk
    cases st
    · cases has
      · go_wp2_with (go_at_call 61; refine (sees_ev HM5.out ok hl ho _ _ _).mono ?_; rintro e w6 ⟨rfl, c6⟩; have C6 := Lib.hid c6; clear c6)
        go_ret
        rw [HST.out, HSM.out]
        exact ⟨rfl, C5.out.trans C6.out⟩
      · go_wp2_with fail
        go_ret
        rw [HST.out, HSM.out]
        exact ⟨rfl, C5.out⟩
    · go_wp2_with fail
      go_ret
      rw [HST.out]
      exact ⟨rfl, C5.out⟩
theorem own_ev (h : BusM n m w q F S) {N : Nat} (ok : S.Ok n m N) {i l o : Nat} (hi : i < m) (hl : l < n) (ho : o < 8) (kd va : Int) : Calls Try.prog 45 #[.pointer (some ⟨q, 0, none⟩), .agg (evc ⟨kd, i, l, o, va⟩)] w fun r w' => r = .returned (.bool ((!(S.core i).st && ((lookA ((l : Int), (o : Int)) (S.core i).sm).isSome && (newO (S.core i).sm ((l : Int), (o : Int))).2 == va)))) ∧ Chg [] w w' := by
  obtain ⟨bl, cl, kb, bp, bc, bm, xs, G, P0⟩ := h
  obtain ⟨n1, n2⟩ := one_new w (.cells (evc ⟨kd, i, l, o, va⟩) 41)
  have P := P0.keep n2 (by simp)
  have hpF : ∀ z ∈ F, z ≠ w.heap.size := fun z hz e => by have := P0.old z hz; omega
  have N2 := Lib.hid n2
  clear n2 P0
  go_enter Try.func45, Try.ntmps45
  go_upto_region 1 with fail
  generalize w.alloc (.cells (evc ⟨kd, i, l, o, va⟩) 41) = w1 at *
  generalize w.heap.size = p at *
  have hq := P.hq
  unfold busc at hq
  obtain ⟨x, g, hco, hg, hcs⟩ := P.core hi
  have hcb := hco.hb
  obtain ⟨c0, c1, c2, c3, c4, c5, c6, c7, c8⟩ := cx_cells hco.hx
  rw [hco.co.st] at c3
  have i0 : (0 : Int) ≤ (i : Int) := by omega
  have i1 : (i : Int) < (m : Int) := by omega
  have hne : x.ms ∈ g := by
    obtain ⟨_, _, _, Fb, hs', hF, _⟩ := hco.co
    exact hF.mem_iff.2 (by simp)
  have hbq : bc ≠ p := hpF bc (P.mem bc (by simp))
  obtain ⟨_, _, _, Fb, hs', hF, _, ⟨om, hom, hmm⟩, _⟩ := hco.co
  have hlk := look_ok (ms := x.ms) hmm l o
  generalize hnw : newO (S.core i).sm ((l : Int), (o : Int)) = nw at *
  generalize hsm : (lookA ((l : Int), (o : Int)) (S.core i).sm).isSome = has at *
  generalize hst : (S.core i).st = st at *
  have HNW := Lib.hid hnw
  have HSM := Lib.hid hsm
  have HST := Lib.hid hst
  have HP := Lib.hid (show BusM n m w1 q F S from ⟨bl, cl, kb, bp, bc, bm, xs, G, P⟩)
  have fnw := field_nw1 nw.1 nw.2
  clear P hco hcs hnw hsm hst hmm hF hg
  go_quiet (fail)
  have D := (Chg.refl [] w1).drewN nq
  have N3 := Lib.hid (N2.out.trans D)
  have HP3 := Lib.hid (HP.out.keep D (by simp))
  have n1 := D.keep n1 (by simp)
  have hcb := D.keep hcb (by simp)
  have hom := D.keep hom (by simp)
  clear D N2 HP hq
  generalize w1.drewN nq = w2 at *
  go_upto_region 2 with fail
  go_region_law (first | (go_simp; go_at_call 60; refine (spotof_any _ _).mono ?_; rintro v w3 ⟨rfl, c3⟩; (try have r3 : w3.heap[w2.heap.size]? = some (.cells (nwC 0 0) 118 (0, 0)) := c3.keep (by first | exact (MapKept.heap_alloc w2 _).1) (by simp)); have d3 : Chg [] w2 w3 := Chg.trans (by first | exact Chg.refl [] w2 | exact (Chg.refl [] w2).drew | exact ((Chg.refl [] w2).alloc _).drew | exact ((Chg.refl [] w2).drew).alloc _) c3; have hcb3 := d3.keep hcb (by simp); have hom3 := d3.keep hom (by simp); have n3 := d3.keep n1 (by simp); have D3 := Lib.hid d3; clear c3 d3))
  all_goals
    first
    | (refine world_cut (fun w5 => w5.heap[w2.heap.size]? = some (.cells (nwC nw.1 nw.2) 118 (0, 0)) ∧ Chg [] w2 w5) ⟨put_new r3 (by simp [nwC_size]), D3.out.putRow _ _ _ (.inr (Nat.le_refl _))⟩ ?_
       generalize w2.heap.size = r at *)
    | (refine world_cut (fun w5 => w5.heap[w3.heap.size]? = some (.cells (nwC nw.1 nw.2) 118 (0, 0)) ∧ Chg [] w2 w5) ⟨(MapKept.heap_alloc w3 _).1, D3.out.alloc _⟩ ?_
       generalize w3.heap.size = r at *)
    rintro w5 ⟨r5, c5⟩
    have hcb5 := c5.keep hcb (by simp)
    have n5 := c5.keep n1 (by simp)
    have HM5 := Lib.hid (HP3.out.keep c5 (by simp))
    have C5 := Lib.hid (N3.out.trans c5)
    clear c5 hcb3 hom3 n3 D3 hcb n1 hom HP3 N3 hlk
    cases st
    · cases has
      · go_wp2_with fail
        go_ret
        rw [HST.out, HSM.out]
        exact ⟨rfl, C5.out⟩
      · go_wp2_with fail
        go_ret
        rw [HST.out, HSM.out, HNW.out]
        exact ⟨rfl, C5.out⟩
    · go_wp2_with fail
      go_ret
      rw [HST.out]
      exact ⟨rfl, C5.out⟩

end
end Go.Proofs.Ytnocekhgabgffaa
