/- Texts of the walk, one behind the other: Rbr Rbp Rbt Rbu. No condition. -/
import Derived.Test.YtnocekhgabgffaaOCaj
section
namespace Go.Proofs.Ytnocekhgabgffaa
open Go.RowKit
set_option linter.unusedVariables false
set_option maxHeartbeats 1000000

set_option maxRecDepth 100000
attribute [local go_sem ↓] append_appS copy_copS clear_clrS make_mkS slice_slS lookup_lookS mput_mputS del_mdelS cell_row frozen_row heap_drew heap_drewN heap_alloc heap_past heap_setCell heap_putRow heap_setB loadEv storeEv loadBe storeBe loadSp storeSp loadNw storeNw loadLine storeLine evc_kd evc_co evc_li evc_wo evc_va bec_fl bec_li bec_wo bec_va nwC_0 nwC_1 spC_0 spC_1
attribute [local go_sem] rowCell_some rowFrozen_some rowHas_some rowIn_some rowPart_full rowPart_lit rowPut_full rowPut_lit rowSet_some size_putRow size_setB run_loadS run_storeS run_appS run_copS run_clrS run_mkS run_slS run_lookS run_mputS run_mdelS loadW_at storeW_at fit_all fit_le one_int one_bool one_pointer one_slice allOne_list putRow_new ne_size1 ne_size2 ne_size3 ne_size4 wideEv wideBe wideSp wideNw wideLine evc_size evc_one evc_ne evc_lit evc_z fold_evc bec_size bec_one bec_lit bec_ne bec_at bec_in spC_size spC_one nwC_size nwC_one nwC_ne nwC_set0 nwC_set1 nwC_lit bec_set0 bec_set1 bec_set2 bec_set3 spC_set0 spC_set1 spC_lit fold_spC spC_ne fold_nwC fold_bec fold_at vs_size vs_one ic_size ic_get
attribute [local simp ↓] heap_drew heap_drewN heap_alloc heap_past heap_setCell heap_putRow heap_setB
attribute [local simp] rowCell_some rowFrozen_some rowHas_some rowIn_some rowPart_full rowPart_lit rowPut_full rowPut_lit rowSet_some size_putRow size_setB fit_all putRow_new ne_size1 ne_size2 ne_size3 ne_size4 evc_size bec_size spC_size nwC_size vs_size fit_le
attribute [local go_sem ↓] loadIt storeIt loadSn storeSn loadPl storePl
attribute [local go_sem] wideIt wideSn widePl
section
variable {z : Cf} {w w' : World} {q bl kb bp bc ck : Nat} {I : List Nat} {xs : List Ci} {R : Rb} {N : Nat}
set_option maxHeartbeats 4000000 in
theorem done_13 (P : DbP z w q bl kb bp bc ck I xs R) (ok : R.Ok z N) (hN : N ≤ 1000) {i : Nat} (hi : i < z.m) (kd co li wo va : Int) (t12 : (kd == 12) = false) (t14 : (kd == 14) = false) (t3 : (kd == 3) = false) (t13 : (kd == 13) = true) (t4 : (kd == 4) = false) (l : Nat) (hl : l < z.n) (hli : li = l) (hf : firstR (R.core i) ⟨true, li, 0, 0⟩ = true) :
    Calls Try.prog 30 #[.pointer (some ⟨q, 0, none⟩), .pointer (some ⟨bc, i * 6, none⟩), .agg (evc ⟨kd, co, li, wo, va⟩)] w (DoneTo z w q bl kb bp bc ck I (R.setC i (lockC { R.core i with L := (R.core i).L.tail, S := (R.core i).S ++ [(li, R.ps.getD l 0)] } ⟨kd, co, li, wo, va⟩))) := by
  subst hli
  obtain ⟨x, hx, hcr, hd⟩ := P.core hi
  obtain ⟨n1, n2⟩ := one_new w (.cells (evc ⟨kd, co, (l : Int), wo, va⟩) 41)
  have P1 := P.keep n2 (by simp)
  have hpn : w.heap.size ≠ bc := by have := P.old bc (by simp); omega
  have hpb : w.heap.size ≠ bl := by have := P.old bl (by simp); omega
  have HPN := Lib.hid hpn
  have HPB := Lib.hid hpb
  have N2 := Lib.hid n2
  have HX := Lib.hid hx
  clear n2 hd P hcr hpn hpb
  go_enter Try.func30, Try.ntmps30
  try dsimp only [List.append]
  go_upto_region 1 with fail
  generalize w.alloc (.cells (evc ⟨kd, co, (l : Int), wo, va⟩) 41) = w1 at *
  generalize w.heap.size = p at *
  have hb1 := P1.hc
  have HF := Lib.hid hf
  have PX := Lib.hid P1
  have CX := Lib.hid (N2.out.mono (l' := [bl, bc]) (by simp))
  clear hf P1 hb1
  go_upto_region 11 with fail
  obtain ⟨x', e1, e2, hd0⟩ := PX.out.core hi
  rw [HX.out] at e1
  cases e1
  obtain ⟨y, L', hL⟩ : ∃ y L', (R.core i).L = y :: L' := by
    cases hL : (R.core i).L with
    | nil => have := HF.out; simp [firstR, hL] at this
    | cons y L' => exact ⟨y, L', rfl⟩
  have HLt := Lib.hid (show (R.core i).L.tail = L' by rw [hL]; rfl)
  have LEN := Lib.hid (show i < R.cs.length by rw [ok.cs]; exact hi)
  have hn0 : x.n = L'.length + 1 := by rw [hd0.n, hL]; rfl
  have hcap := hd0.cA
  have hsl := hd0.hA
  rw [hL, hn0] at hsl
  rw [hn0] at hcap
  have hst := hsl.tail18 Be.len hcap
  have hlen : L'.length ≤ 1000 := by have := (ok.core i).1; rw [hL] at this; simp at this; omega
  obtain ⟨c0, _, _, _, _, _⟩ := ci_cells HX.out
  rw [hn0] at c0
  have hb3 := PX.out.hc
  have hq3 := PX.out.hq
  have oq := old hq3
  have obc := old hb3
  have hslt := fun w => slR_tail (P := Try.prog) eltIt x.A L'.length x.cap hcap w
  have hE : (w1.alloc (.cells #[] 101)).heap[w1.heap.size]? = some (.cells #[] 101 (0, 0)) := (MapKept.heap_alloc w1 _).1
  have cE : Chg [] w1 (w1.alloc (.cells #[] 101)) := (Chg.refl [] w1).alloc _
  obtain ⟨b4, p4, A4, w4, e4, v4, nn4, k4, _⟩ := clone18 (ty := 77) eltIt (c := x.cap - 1) cE oq hE (Nat.le_refl _) (hst.chg cE (by simp)) rfl (by omega) (by unfold maxLen; omega)
  have hb4 := k4.keep hb3 List.not_mem_nil
  have n4 := k4.keep n1 List.not_mem_nil
  have f5 : (w4.setCell ⟨bc, i * 6, none⟩ (.slice A4 L'.length p4)).heap[bc]? = some (.cells (sq Ci.enc (xs.set i { x with A := A4, n := L'.length, cap := p4 }) []) 82 (0, 0)) := by rw [heap_setCell, if_pos rfl, hb4, rowSet_some, ci_A HX.out]
  have g4 : Chg [bc] w4 (w4.setCell ⟨bc, i * 6, none⟩ (.slice A4 L'.length p4)) := (Chg.refl [bc] w4).setCell _ _ _ (.inl (by simp))
  have g5 : Chg [bc] w1 (w4.setCell ⟨bc, i * 6, none⟩ (.slice A4 L'.length p4)) := (k4.mono (by simp)).trans g4
  have n5 := g4.keep n4 (by simpa using HPN.out)
  have hv := v4.sl Be.len
  have hbig : ∀ y ∈ I, y ∉ [bc] := fun y hy h => PX.out.iF y hy (by simp only [List.mem_singleton] at h; simp [h])
  have hob : b4 < w4.heap.size := (v4.old (oq.chg k4)).lt
  have hb4n : ∀ a, A4 = some a → a.block ∉ [bc] := fun a ha => by
    have h1 := vec_in v4 [] a ha
    have h2 := PX.out.old bc (by simp)
    simp only [List.mem_singleton] at h1 ⊢
    omega
  have hd5 : DcM (w4.setCell ⟨bc, i * 6, none⟩ (.slice A4 L'.length p4)) { x with A := A4, n := L'.length, cap := p4 } (b4 :: I) { R.core i with L := L' } := by
    have h6 := hd0.keep g5 hbig
    exact ⟨rfl, h6.k, hv.chg g4 hb4n, h6.hB, vec_in v4 I, fun a ha => List.mem_cons_of_mem _ (h6.iB a ha), h6.st, h6.lk, h6.pl, v4.le, h6.cB⟩
  have P5 := Lib.hid (PX.out.setC hi g5 (by simp) f5 hd5 (fun y hy => List.mem_cons_of_mem _ hy) (fun y hy => by
    rcases List.mem_cons.1 hy with h | h
    · exact .inr (by omega)
    · exact .inl h) (fun y hy => by
    rcases List.mem_cons.1 hy with h | h
    · rw [h]; exact Nat.lt_of_lt_of_le hob g4.size
    · exact Nat.lt_of_lt_of_le (PX.out.iO y h) g5.size))
  have C5 := Lib.hid (CX.out.trans (g5.mono (l' := [bl, bc]) (by simp)))
  have HNI := Lib.hid (show ∀ y, y ∈ b4 :: I → y ∈ I ∨ w.heap.size ≤ y from fun y hy => by
    rcases List.mem_cons.1 hy with h | h
    · have := CX.out.size; exact .inr (by omega)
    · exact .inl h)
  have hxb : (xs.set i { x with A := A4, n := L'.length, cap := p4 })[i]? = some { x with A := A4, n := L'.length, cap := p4 } := List.getElem?_set_self (List.getElem?_eq_some_iff.1 HX.out).1
  have HXB := Lib.hid hxb
  clear hsl hst hE cE v4 nn4 k4 hcap hn0 e2 hd0 n4 hv hbig hob hb4n hd5 hxb f5 g4 g5 n1
  unfold dbc at hq3
  go_upto_region 12 with fail
  clear hslt e4 c0 hb4 hq3 oq obc hb3
  generalize w4.setCell ⟨bc, i * 6, none⟩ (.slice A4 L'.length p4) = wp at *
  generalize ({ x with A := A4, n := L'.length, cap := p4 } : Ci) = xB at *
  generalize xs.set i xB = xsB at *
  have RP := Lib.hid (show (R.setC i { R.core i with L := L' }).core i = { R.core i with L := L' } by rw [rcore_setC LEN.out, if_pos rfl])
  have HRX := Lib.hid (show ∀ S2, (R.setC i { R.core i with L := L' }).setC i { (R.setC i { R.core i with L := L' }).core i with S := S2 } = R.setC i { R.core i with L := L', S := S2 } from fun S2 => by rw [RP.out]; unfold Rb.setC; rw [List.set_set])
  obtain ⟨x', e1, e2, hd0⟩ := P5.out.core hi
  rw [HXB.out] at e1
  cases e1
  rw [RP.out] at hd0
  have hbp := P5.out.hc
  have hqp := P5.out.hq
  have hpp : wp.heap[bp]? = some (.cells (ic R.ps) 3 (0, 0)) := P5.out.hp
  unfold dbc at hqp
  have oqp := old hqp
  have obcp := old hbp
  have obpp := old hpp
  have on5 := old n5
  have hlen2 : (R.core i).S.length ≤ 1000 := by have := (ok.core i).2; omega
  have hk0 : xB.k = (R.core i).S.length := hd0.k
  have hs0 : Sl wp 2 xB.B (R.core i).S.length (cat snE (R.core i).S) := by have h := hd0.hB; rw [hk0] at h; exact h
  obtain ⟨_, c0, _, _, _, _⟩ := ci_cells HXB.out
  rw [hk0] at c0
  have hpv : (ic R.ps)[l]? = some (.int .i64 (R.ps.getD l 0)) := ic_num (by rw [ok.ps]; exact hl)
  have u0 : (0 : Int) ≤ (l : Int) := by omega
  have u1 : (l : Int) < (z.n : Int) := by omega
  generalize ic R.ps = PAr at hpv hpp
  generalize hpvv : R.ps.getD l 0 = pv at *
  clear e2 hd0 hk0 hpvv
  have cA := ((Chg.refl [] wp).alloc (.cells #[] 104)).drew
  have cC := ((Chg.refl [] wp).alloc (.cells (spC (l : Int) pv) 104)).drew
  have cAC := (((Chg.refl [] wp).alloc (.cells #[] 104)).alloc (.cells (spC (l : Int) pv) 104)).drew
  have cCA := (((Chg.refl [] wp).alloc (.cells (spC (l : Int) pv) 104)).alloc (.cells #[] 104)).drew
  obtain ⟨b1, p1, A1, y3, e1, v1, nn1, k1, k1'⟩ := clone18 (ty := 78) eltSn (c := xB.kap) cA oqp (eb := wp.heap.size) (by simp) (Nat.le_refl _) (hs0.chg cA (by simp)) rfl (by omega) (by unfold maxLen; omega)
  have k1a := k1.alloc (.cells (spC (l : Int) pv) 104)
  obtain ⟨b2, p2, A2, y4, e2', v2, nn2, k2⟩ := snoc18 (ty := 78) eltSn (y := (((l : Int), pv) : Int × Int)) (b := y3.heap.size) k1a oqp (v1.keep ((Chg.refl [] y3).alloc (.cells (spC (l : Int) pv) 104)) (by simp)) nn1 rfl (by simp [snE_sp]) (by omega) (by unfold maxLen; omega)
  obtain ⟨b3, p3, A3, y5, e3, v3, nn3, k3, k3'⟩ := clone18 (ty := 78) eltSn (c := xB.kap) cAC oqp (eb := wp.heap.size) (by simp) (Nat.le_refl _) (hs0.chg cAC (by simp)) rfl (by omega) (by unfold maxLen; omega)
  obtain ⟨b4', p4', A4', y6, e4', v4', nn4', k4'⟩ := snoc18 (ty := 78) eltSn (y := (((l : Int), pv) : Int × Int)) (b := wp.heap.size + 1) k3 oqp v3 nn3 rfl (k3'.keep (by simp [snE_sp]) (by simp)) (by omega) (by unfold maxLen; omega)
  obtain ⟨b5, p5, A5, y7, e5, v5, nn5, k5, k5'⟩ := clone18 (ty := 78) eltSn (c := xB.kap) cCA oqp (eb := wp.heap.size + 1) (by simp) (by omega) (hs0.chg cCA (by simp)) rfl (by omega) (by unfold maxLen; omega)
  obtain ⟨b6, p6, A6, y8, e6, v6, nn6, k6⟩ := snoc18 (ty := 78) eltSn (y := (((l : Int), pv) : Int × Int)) (b := wp.heap.size) k5 oqp v5 nn5 rfl (k5'.keep (by simp [snE_sp]) (by simp)) (by omega) (by unfold maxLen; omega)
  have n3 := k1.keep n5 List.not_mem_nil
  have on3 := old n3
  have hb3p := k1.keep hbp List.not_mem_nil
  have hq3p := k1.keep hqp List.not_mem_nil
  have hp3p := k1.keep hpp List.not_mem_nil
  have hb4 := k2.keep hbp List.not_mem_nil
  have hb6 := k4'.keep hbp List.not_mem_nil
  have hb8 := k6.keep hbp List.not_mem_nil
  have K2 := Lib.hid (And.intro v2 (And.intro nn2 k2))
  have K4 := Lib.hid (And.intro v4' (And.intro nn4' k4'))
  have K6 := Lib.hid (And.intro v6 (And.intro nn6 k6))
  clear v1 nn1 k1 k1' k1a v2 nn2 k2 v3 nn3 k3 k3' v4' nn4' k4' v5 nn5 k5 k5' v6 nn6 k6 cA cC cAC cCA
  go_region
  · as_aux_lemma =>
    obtain ⟨v, nn, kk⟩ := K2.out
    obtain ⟨PA0, c1⟩ := P5.out.putS hi HXB.out v (nK := (R.core i).S.length + 1) (by simp) nn kk (W := (y4.setCell ⟨bc, i * 6 + 1, none⟩ (.slice A2 ((R.core i).S.length + 1) p2))) rfl
    rw [HRX.out] at PA0
    have PA := Lib.hid PA0
    have CA := Lib.hid (C5.out.trans (c1.mono (by simp)))
    have HNJ := Lib.hid (show ∀ y, y ∈ b2 :: b4 :: I → y ∈ I ∨ w.heap.size ≤ y from fun y hy => by
      rcases List.mem_cons.1 hy with h | h
      · have := C5.out.size; exact .inr (by omega)
      · exact HNI.out y h)
    have m0 := c1.keep n5 (by simpa using HPN.out)
    have hbA := PA0.hc
    have HXC := Lib.hid (show (xsB.set i { xB with B := A2, k := (R.core i).S.length + 1, kap := p2 })[i]? = some { xB with B := A2, k := (R.core i).S.length + 1, kap := p2 } from List.getElem?_set_self (List.getElem?_eq_some_iff.1 HXB.out).1)
    clear K2 K4 K6 v nn kk PA0 c1 hb4 hb6 hb8 n5 hbp n3 on3 c0 hs0 P5 hqp hpp hpv HXB hb3p hq3p hp3p
    generalize (y4.setCell ⟨bc, i * 6 + 1, none⟩ (.slice A2 ((R.core i).S.length + 1) p2)) = wA at *
    generalize ({ xB with B := A2, k := (R.core i).S.length + 1, kap := p2 } : Ci) = xC at *
    generalize xsB.set i xC = xsC at *
    obtain ⟨_, _, _, k0, _, _⟩ := ci_cells HXC.out
    go_upto_region 20 with fail
    have f1 : (wA.setCell ⟨bc, i * 6 + 3, none⟩ (.bool false)).heap[bc]? = some (.cells (sq Ci.enc (xsC.set i { xC with lk := false }) []) 82 (0, 0)) := by rw [heap_setCell, if_pos rfl, hbA, rowSet_some, ci_lk HXC.out]
    have g1 : Chg [bc] wA (wA.setCell ⟨bc, i * 6 + 3, none⟩ (.bool false)) := (Chg.refl [bc] wA).setCell _ _ _ (.inl (by simp))
    have m1 := g1.keep m0 (by simpa using HPN.out)
    generalize wA.setCell ⟨bc, i * 6 + 3, none⟩ (.bool false) = wB at *
    have hil : i < xsC.length := (List.getElem?_eq_some_iff.1 HXC.out).1
    have x1 : (xsC.set i { xC with lk := false })[i]? = some { xC with lk := false } := List.getElem?_set_self hil
    have h2 := ci_has (xs := xsC.set i { xC with lk := false }) (i := i) (by simpa using hil) 82
    have f2 : (putRow wB bc (i * 6 + 4) (spC 0 0)).heap[bc]? = some (.cells (sq Ci.enc (xsC.set i { xC with lk := false, pl := (0, 0) }) []) 82 (0, 0)) := by rw [heap_putRow _ _ _ _ _ (by rw [spC_size, f1]; exact h2), if_pos rfl, f1, ci_pl x1, List.set_set]
    have g2 : Chg [bc] wA (putRow wB bc (i * 6 + 4) (spC 0 0)) := g1.trans ((Chg.refl [bc] wB).putRow _ _ _ (.inl (by simp)))
    have m2 := ((Chg.refl [bc] wB).putRow bc (i * 6 + 4) (spC 0 0) (.inl (by simp))).keep m1 (by simpa using HPN.out)
    go_upto_region 21 with fail
    clear f1 m1 g1 h2 x1
    generalize putRow wB bc (i * 6 + 4) (spC 0 0) = wC at *
    have x2 : (xsC.set i { xC with lk := false, pl := (0, 0) })[i]? = some { xC with lk := false, pl := (0, 0) } := List.getElem?_set_self hil
    obtain ⟨_, _, _, k3, _, _⟩ := ci_cells x2
    dsimp only at k3
    clear k0
    have h4 : ¬ kd = 4 := by simpa using t4
    have DN := Lib.hid (PA.out.lock hi HXC.out ⟨kd, co, (l : Int), wo, va⟩ (b := false) (pl := (0, 0)) (by simp [h4]) (by simp [h4]) g2 f2)
    have CN := Lib.hid (CA.out.trans (g2.mono (by simp)))
    clear g2 x2 h4
    go_wp2_with fail
    go_end0
    exact ⟨rfl, _, _, (by have h := DN.out; rw [lock_eq LEN.out] at h; exact h), CN.out, HNJ.out⟩
  · as_aux_lemma =>
    obtain ⟨v, nn, kk⟩ := K4.out
    obtain ⟨PA0, c1⟩ := P5.out.putS hi HXB.out v (nK := (R.core i).S.length + 1) (by simp) nn kk (W := (y6.setCell ⟨bc, i * 6 + 1, none⟩ (.slice A4' ((R.core i).S.length + 1) p4'))) rfl
    rw [HRX.out] at PA0
    have PA := Lib.hid PA0
    have CA := Lib.hid (C5.out.trans (c1.mono (by simp)))
    have HNJ := Lib.hid (show ∀ y, y ∈ b4' :: b4 :: I → y ∈ I ∨ w.heap.size ≤ y from fun y hy => by
      rcases List.mem_cons.1 hy with h | h
      · have := C5.out.size; exact .inr (by omega)
      · exact HNI.out y h)
    have m0 := c1.keep n5 (by simpa using HPN.out)
    have hbA := PA0.hc
    have HXC := Lib.hid (show (xsB.set i { xB with B := A4', k := (R.core i).S.length + 1, kap := p4' })[i]? = some { xB with B := A4', k := (R.core i).S.length + 1, kap := p4' } from List.getElem?_set_self (List.getElem?_eq_some_iff.1 HXB.out).1)
    clear K2 K4 K6 v nn kk PA0 c1 hb4 hb6 hb8 n5 hbp n3 on3 c0 hs0 P5 hqp hpp hpv HXB hb3p hq3p hp3p
    generalize (y6.setCell ⟨bc, i * 6 + 1, none⟩ (.slice A4' ((R.core i).S.length + 1) p4')) = wA at *
    generalize ({ xB with B := A4', k := (R.core i).S.length + 1, kap := p4' } : Ci) = xC at *
    generalize xsB.set i xC = xsC at *
    obtain ⟨_, _, _, k0, _, _⟩ := ci_cells HXC.out
    go_upto_region 20 with fail
    have f1 : (wA.setCell ⟨bc, i * 6 + 3, none⟩ (.bool false)).heap[bc]? = some (.cells (sq Ci.enc (xsC.set i { xC with lk := false }) []) 82 (0, 0)) := by rw [heap_setCell, if_pos rfl, hbA, rowSet_some, ci_lk HXC.out]
    have g1 : Chg [bc] wA (wA.setCell ⟨bc, i * 6 + 3, none⟩ (.bool false)) := (Chg.refl [bc] wA).setCell _ _ _ (.inl (by simp))
    have m1 := g1.keep m0 (by simpa using HPN.out)
    generalize wA.setCell ⟨bc, i * 6 + 3, none⟩ (.bool false) = wB at *
    have hil : i < xsC.length := (List.getElem?_eq_some_iff.1 HXC.out).1
    have x1 : (xsC.set i { xC with lk := false })[i]? = some { xC with lk := false } := List.getElem?_set_self hil
    have h2 := ci_has (xs := xsC.set i { xC with lk := false }) (i := i) (by simpa using hil) 82
    have f2 : (putRow wB bc (i * 6 + 4) (spC 0 0)).heap[bc]? = some (.cells (sq Ci.enc (xsC.set i { xC with lk := false, pl := (0, 0) }) []) 82 (0, 0)) := by rw [heap_putRow _ _ _ _ _ (by rw [spC_size, f1]; exact h2), if_pos rfl, f1, ci_pl x1, List.set_set]
    have g2 : Chg [bc] wA (putRow wB bc (i * 6 + 4) (spC 0 0)) := g1.trans ((Chg.refl [bc] wB).putRow _ _ _ (.inl (by simp)))
    have m2 := ((Chg.refl [bc] wB).putRow bc (i * 6 + 4) (spC 0 0) (.inl (by simp))).keep m1 (by simpa using HPN.out)
    go_upto_region 21 with fail
    clear f1 m1 g1 h2 x1
    generalize putRow wB bc (i * 6 + 4) (spC 0 0) = wC at *
    have x2 : (xsC.set i { xC with lk := false, pl := (0, 0) })[i]? = some { xC with lk := false, pl := (0, 0) } := List.getElem?_set_self hil
    obtain ⟨_, _, _, k3, _, _⟩ := ci_cells x2
    dsimp only at k3
    clear k0
    have h4 : ¬ kd = 4 := by simpa using t4
    have DN := Lib.hid (PA.out.lock hi HXC.out ⟨kd, co, (l : Int), wo, va⟩ (b := false) (pl := (0, 0)) (by simp [h4]) (by simp [h4]) g2 f2)
    have CN := Lib.hid (CA.out.trans (g2.mono (by simp)))
    clear g2 x2 h4
    go_wp2_with fail
    go_end0
    exact ⟨rfl, _, _, (by have h := DN.out; rw [lock_eq LEN.out] at h; exact h), CN.out, HNJ.out⟩
  · as_aux_lemma =>
    obtain ⟨v, nn, kk⟩ := K6.out
    obtain ⟨PA0, c1⟩ := P5.out.putS hi HXB.out v (nK := (R.core i).S.length + 1) (by simp) nn kk (W := (y8.setCell ⟨bc, i * 6 + 1, none⟩ (.slice A6 ((R.core i).S.length + 1) p6))) rfl
    rw [HRX.out] at PA0
    have PA := Lib.hid PA0
    have CA := Lib.hid (C5.out.trans (c1.mono (by simp)))
    have HNJ := Lib.hid (show ∀ y, y ∈ b6 :: b4 :: I → y ∈ I ∨ w.heap.size ≤ y from fun y hy => by
      rcases List.mem_cons.1 hy with h | h
      · have := C5.out.size; exact .inr (by omega)
      · exact HNI.out y h)
    have m0 := c1.keep n5 (by simpa using HPN.out)
    have hbA := PA0.hc
    have HXC := Lib.hid (show (xsB.set i { xB with B := A6, k := (R.core i).S.length + 1, kap := p6 })[i]? = some { xB with B := A6, k := (R.core i).S.length + 1, kap := p6 } from List.getElem?_set_self (List.getElem?_eq_some_iff.1 HXB.out).1)
    clear K2 K4 K6 v nn kk PA0 c1 hb4 hb6 hb8 n5 hbp n3 on3 c0 hs0 P5 hqp hpp hpv HXB hb3p hq3p hp3p
    generalize (y8.setCell ⟨bc, i * 6 + 1, none⟩ (.slice A6 ((R.core i).S.length + 1) p6)) = wA at *
    generalize ({ xB with B := A6, k := (R.core i).S.length + 1, kap := p6 } : Ci) = xC at *
    generalize xsB.set i xC = xsC at *
    obtain ⟨_, _, _, k0, _, _⟩ := ci_cells HXC.out
    go_upto_region 20 with fail
    have f1 : (wA.setCell ⟨bc, i * 6 + 3, none⟩ (.bool false)).heap[bc]? = some (.cells (sq Ci.enc (xsC.set i { xC with lk := false }) []) 82 (0, 0)) := by rw [heap_setCell, if_pos rfl, hbA, rowSet_some, ci_lk HXC.out]
    have g1 : Chg [bc] wA (wA.setCell ⟨bc, i * 6 + 3, none⟩ (.bool false)) := (Chg.refl [bc] wA).setCell _ _ _ (.inl (by simp))
    have m1 := g1.keep m0 (by simpa using HPN.out)
    generalize wA.setCell ⟨bc, i * 6 + 3, none⟩ (.bool false) = wB at *
    have hil : i < xsC.length := (List.getElem?_eq_some_iff.1 HXC.out).1
    have x1 : (xsC.set i { xC with lk := false })[i]? = some { xC with lk := false } := List.getElem?_set_self hil
    have h2 := ci_has (xs := xsC.set i { xC with lk := false }) (i := i) (by simpa using hil) 82
    have f2 : (putRow wB bc (i * 6 + 4) (spC 0 0)).heap[bc]? = some (.cells (sq Ci.enc (xsC.set i { xC with lk := false, pl := (0, 0) }) []) 82 (0, 0)) := by rw [heap_putRow _ _ _ _ _ (by rw [spC_size, f1]; exact h2), if_pos rfl, f1, ci_pl x1, List.set_set]
    have g2 : Chg [bc] wA (putRow wB bc (i * 6 + 4) (spC 0 0)) := g1.trans ((Chg.refl [bc] wB).putRow _ _ _ (.inl (by simp)))
    have m2 := ((Chg.refl [bc] wB).putRow bc (i * 6 + 4) (spC 0 0) (.inl (by simp))).keep m1 (by simpa using HPN.out)
    go_upto_region 21 with fail
    clear f1 m1 g1 h2 x1
    generalize putRow wB bc (i * 6 + 4) (spC 0 0) = wC at *
    have x2 : (xsC.set i { xC with lk := false, pl := (0, 0) })[i]? = some { xC with lk := false, pl := (0, 0) } := List.getElem?_set_self hil
    obtain ⟨_, _, _, k3, _, _⟩ := ci_cells x2
    dsimp only at k3
    clear k0
    have h4 : ¬ kd = 4 := by simpa using t4
    have DN := Lib.hid (PA.out.lock hi HXC.out ⟨kd, co, (l : Int), wo, va⟩ (b := false) (pl := (0, 0)) (by simp [h4]) (by simp [h4]) g2 f2)
    have CN := Lib.hid (CA.out.trans (g2.mono (by simp)))
    clear g2 x2 h4
    go_wp2_with fail
    go_end0
    exact ⟨rfl, _, _, (by have h := DN.out; rw [lock_eq LEN.out] at h; exact h), CN.out, HNJ.out⟩
end
end Go.Proofs.Ytnocekhgabgffaa
end
section
namespace Go.Proofs.Ytnocekhgabgffaa
open Go.RowKit
set_option linter.unusedVariables false
set_option maxHeartbeats 1000000

set_option maxRecDepth 100000
attribute [local go_sem ↓] append_appS copy_copS clear_clrS make_mkS slice_slS lookup_lookS mput_mputS del_mdelS cell_row frozen_row heap_drew heap_drewN heap_alloc heap_past heap_setCell heap_putRow heap_setB loadEv storeEv loadBe storeBe loadSp storeSp loadNw storeNw loadLine storeLine evc_kd evc_co evc_li evc_wo evc_va bec_fl bec_li bec_wo bec_va nwC_0 nwC_1 spC_0 spC_1
attribute [local go_sem] rowCell_some rowFrozen_some rowHas_some rowIn_some rowPart_full rowPart_lit rowPut_full rowPut_lit rowSet_some size_putRow size_setB run_loadS run_storeS run_appS run_copS run_clrS run_mkS run_slS run_lookS run_mputS run_mdelS loadW_at storeW_at fit_all fit_le one_int one_bool one_pointer one_slice allOne_list putRow_new ne_size1 ne_size2 ne_size3 ne_size4 wideEv wideBe wideSp wideNw wideLine evc_size evc_one evc_ne evc_lit evc_z fold_evc bec_size bec_one bec_lit bec_ne bec_at bec_in spC_size spC_one nwC_size nwC_one nwC_ne nwC_set0 nwC_set1 nwC_lit bec_set0 bec_set1 bec_set2 bec_set3 spC_set0 spC_set1 spC_lit fold_spC spC_ne fold_nwC fold_bec fold_at vs_size vs_one ic_size ic_get
attribute [local simp ↓] heap_drew heap_drewN heap_alloc heap_past heap_setCell heap_putRow heap_setB
attribute [local simp] rowCell_some rowFrozen_some rowHas_some rowIn_some rowPart_full rowPart_lit rowPut_full rowPut_lit rowSet_some size_putRow size_setB fit_all putRow_new ne_size1 ne_size2 ne_size3 ne_size4 evc_size bec_size spC_size nwC_size vs_size fit_le
attribute [local go_sem ↓] loadIt storeIt loadSn storeSn loadPl storePl
attribute [local go_sem] wideIt wideSn widePl
section
variable {z : Cf} {w w' : World} {q bl kb bp bc ck : Nat} {I : List Nat} {xs : List Ci} {R : Rb} {N : Nat}
theorem done_12 (P : DbP z w q bl kb bp bc ck I xs R) (ok : R.Ok z N) (hN : N ≤ 1000) {i : Nat} (hi : i < z.m) (kd co li wo va : Int) (t12 : (kd == 12) = true) (t4 : (kd == 4) = false) :
    Calls Try.prog 30 #[.pointer (some ⟨q, 0, none⟩), .pointer (some ⟨bc, i * 6, none⟩), .agg (evc ⟨kd, co, li, wo, va⟩)] w (DoneTo z w q bl kb bp bc ck I (R.setC i (lockC { R.core i with L := (R.core i).L ++ [⟨false, li, wo, va⟩] } ⟨kd, co, li, wo, va⟩))) := by
  obtain ⟨x, hx, hcr, hd⟩ := P.core hi
  obtain ⟨n1, n2⟩ := one_new w (.cells (evc ⟨kd, co, li, wo, va⟩) 41)
  have P1 := P.keep n2 (by simp)
  have hpn : w.heap.size ≠ bc := by have := P.old bc (by simp); omega
  have hpb : w.heap.size ≠ bl := by have := P.old bl (by simp); omega
  have HPN := Lib.hid hpn
  have HPB := Lib.hid hpb
  have N2 := Lib.hid n2
  have HX := Lib.hid hx
  clear n2 hd P hcr hpn hpb
  go_enter Try.func30, Try.ntmps30
  try dsimp only [List.append]
  go_upto_region 1 with fail
  generalize w.alloc (.cells (evc ⟨kd, co, li, wo, va⟩) 41) = w1 at *
  generalize w.heap.size = p at *
  obtain ⟨x', e1, e2, hd0⟩ := P1.core hi
  rw [HX.out] at e1
  cases e1
  have hb1 := P1.hc
  have oq : Old w1 q := lt_heap P1.hq
  have obc := old hb1
  have on1 := old n1
  have hlen : (R.core i).L.length ≤ 1000 := by have := (ok.core i).1; omega
  have hs0 := hd0.hA
  rw [hd0.n] at hs0
  obtain ⟨c0, _, _, _, _, _⟩ := ci_cells HX.out
  rw [hd0.n] at c0
  have P1' := Lib.hid P1
  have LEN := Lib.hid (show i < R.cs.length by rw [ok.cs]; exact hi)
  clear e2 hd0 P1
  have cA := ((Chg.refl [] w1).alloc (.cells #[] 101)).drew
  have cC := ((Chg.refl [] w1).alloc (.cells (bec (⟨false, li, wo, va⟩ : Be)) 101)).drew
  have cAC := (((Chg.refl [] w1).alloc (.cells #[] 101)).alloc (.cells (bec (⟨false, li, wo, va⟩ : Be)) 101)).drew
  have cCA := (((Chg.refl [] w1).alloc (.cells (bec (⟨false, li, wo, va⟩ : Be)) 101)).alloc (.cells #[] 101)).drew
  obtain ⟨b1, p1, A1, w3, e1, v1, nn1, k1, k1'⟩ := clone18 (ty := 77) eltIt (c := x.cap) cA oq (eb := w1.heap.size) (by simp) (Nat.le_refl _) (hs0.chg cA (by simp)) rfl (by omega) (by unfold maxLen; omega)
  have k1a := k1.alloc (.cells (bec (⟨false, li, wo, va⟩ : Be)) 101)
  obtain ⟨b2, p2, A2, w4, e2', v2, nn2, k2⟩ := snoc18 (ty := 77) eltIt (y := (⟨false, li, wo, va⟩ : Be)) (b := w3.heap.size) k1a oq (v1.keep ((Chg.refl [] w3).alloc (.cells (bec (⟨false, li, wo, va⟩ : Be)) 101)) (by simp)) nn1 rfl (by simp [bec_enc]) (by omega) (by unfold maxLen; omega)
  obtain ⟨b3, p3, A3, w5, e3, v3, nn3, k3, k3'⟩ := clone18 (ty := 77) eltIt (c := x.cap) cAC oq (eb := w1.heap.size) (by simp) (Nat.le_refl _) (hs0.chg cAC (by simp)) rfl (by omega) (by unfold maxLen; omega)
  obtain ⟨b4, p4, A4, w6, e4, v4, nn4, k4⟩ := snoc18 (ty := 77) eltIt (y := (⟨false, li, wo, va⟩ : Be)) (b := w1.heap.size + 1) k3 oq v3 nn3 rfl (k3'.keep (by simp [bec_enc]) (by simp)) (by omega) (by unfold maxLen; omega)
  obtain ⟨b5, p5, A5, w7, e5, v5, nn5, k5, k5'⟩ := clone18 (ty := 77) eltIt (c := x.cap) cCA oq (eb := w1.heap.size + 1) (by simp) (by omega) (hs0.chg cCA (by simp)) rfl (by omega) (by unfold maxLen; omega)
  obtain ⟨b6, p6, A6, w8, e6, v6, nn6, k6⟩ := snoc18 (ty := 77) eltIt (y := (⟨false, li, wo, va⟩ : Be)) (b := w1.heap.size) k5 oq v5 nn5 rfl (k5'.keep (by simp [bec_enc]) (by simp)) (by omega) (by unfold maxLen; omega)
  have n3 := k1.keep n1 List.not_mem_nil
  have on3 := old n3
  have hb4 := k2.keep hb1 List.not_mem_nil
  have hb6 := k4.keep hb1 List.not_mem_nil
  have hb8 := k6.keep hb1 List.not_mem_nil
  have K2 := Lib.hid (And.intro v2 (And.intro nn2 k2))
  have K4 := Lib.hid (And.intro v4 (And.intro nn4 k4))
  have K6 := Lib.hid (And.intro v6 (And.intro nn6 k6))
  clear v1 nn1 k1 k1' k1a v2 nn2 k2 v3 nn3 k3 k3' v4 nn4 k4 v5 nn5 k5 k5' v6 nn6 k6 cA cC cAC cCA
  go_upto_region 3 with fail
  go_region
  · obtain ⟨v, nn, kk⟩ := K2.out
    obtain ⟨PA0, c1⟩ := P1'.out.putL hi HX.out v (nK := (R.core i).L.length + 1) (by simp) nn kk (W := (w4.setCell ⟨bc, i * 6, none⟩ (.slice A2 ((R.core i).L.length + 1) p2))) rfl
    have PA := Lib.hid PA0
    have CA := Lib.hid ((N2.out.mono (l' := [bl, bc]) (by simp)).trans (c1.mono (by simp)))
    have HNI := Lib.hid (show ∀ y, y ∈ b2 :: I → y ∈ I ∨ w.heap.size ≤ y from fun y hy => by
      rcases List.mem_cons.1 hy with h | h
      · have := N2.out.size; exact .inr (by omega)
      · exact .inl h)
    have m0 := c1.keep n1 (by simpa using HPN.out)
    have hbA := PA0.hc
    have HXB := Lib.hid (show (xs.set i { x with A := A2, n := (R.core i).L.length + 1, cap := p2 })[i]? = some { x with A := A2, n := (R.core i).L.length + 1, cap := p2 } from List.getElem?_set_self (List.getElem?_eq_some_iff.1 HX.out).1)
    clear K2 K4 K6 v nn kk PA0 c1 hb4 hb6 hb8 n1 hb1 n3 on3 c0 hs0 hx P1'
    generalize (w4.setCell ⟨bc, i * 6, none⟩ (.slice A2 ((R.core i).L.length + 1) p2)) = wA at *
    generalize ({ x with A := A2, n := (R.core i).L.length + 1, cap := p2 } : Ci) = xB at *
    generalize xs.set i xB = xsB at *
    obtain ⟨_, _, _, k0, _, _⟩ := ci_cells HXB.out
    go_upto_region 20 with fail
    have f1 : (wA.setCell ⟨bc, i * 6 + 3, none⟩ (.bool false)).heap[bc]? = some (.cells (sq Ci.enc (xsB.set i { xB with lk := false }) []) 82 (0, 0)) := by rw [heap_setCell, if_pos rfl, hbA, rowSet_some, ci_lk HXB.out]
    have g1 : Chg [bc] wA (wA.setCell ⟨bc, i * 6 + 3, none⟩ (.bool false)) := (Chg.refl [bc] wA).setCell _ _ _ (.inl (by simp))
    have m1 := g1.keep m0 (by simpa using HPN.out)
    generalize wA.setCell ⟨bc, i * 6 + 3, none⟩ (.bool false) = wB at *
    have hil : i < xsB.length := (List.getElem?_eq_some_iff.1 HXB.out).1
    have x1 : (xsB.set i { xB with lk := false })[i]? = some { xB with lk := false } := List.getElem?_set_self hil
    have h2 := ci_has (xs := xsB.set i { xB with lk := false }) (i := i) (by simpa using hil) 82
    have f2 : (putRow wB bc (i * 6 + 4) (spC 0 0)).heap[bc]? = some (.cells (sq Ci.enc (xsB.set i { xB with lk := false, pl := (0, 0) }) []) 82 (0, 0)) := by rw [heap_putRow _ _ _ _ _ (by rw [spC_size, f1]; exact h2), if_pos rfl, f1, ci_pl x1, List.set_set]
    have g2 : Chg [bc] wA (putRow wB bc (i * 6 + 4) (spC 0 0)) := g1.trans ((Chg.refl [bc] wB).putRow _ _ _ (.inl (by simp)))
    have m2 := ((Chg.refl [bc] wB).putRow bc (i * 6 + 4) (spC 0 0) (.inl (by simp))).keep m1 (by simpa using HPN.out)
    go_upto_region 21 with fail
    clear f1 m1 g1 h2 x1
    generalize putRow wB bc (i * 6 + 4) (spC 0 0) = wC at *
    have x2 : (xsB.set i { xB with lk := false, pl := (0, 0) })[i]? = some { xB with lk := false, pl := (0, 0) } := List.getElem?_set_self hil
    obtain ⟨_, _, _, k3, _, _⟩ := ci_cells x2
    dsimp only at k3
    clear k0
    have h4 : ¬ kd = 4 := by simpa using t4
    have DN := Lib.hid (PA.out.lock hi HXB.out ⟨kd, co, li, wo, va⟩ (b := false) (pl := (0, 0)) (by simp [h4]) (by simp [h4]) g2 f2)
    have CN := Lib.hid (CA.out.trans (g2.mono (by simp)))
    clear g2 x2 h4
    go_wp2_with fail
    go_end0
    exact ⟨rfl, _, _, (by rw [← lock_eq (R := R) LEN.out]; exact DN.out), CN.out, HNI.out⟩
  · obtain ⟨v, nn, kk⟩ := K4.out
    obtain ⟨PA0, c1⟩ := P1'.out.putL hi HX.out v (nK := (R.core i).L.length + 1) (by simp) nn kk (W := (w6.setCell ⟨bc, i * 6, none⟩ (.slice A4 ((R.core i).L.length + 1) p4))) rfl
    have PA := Lib.hid PA0
    have CA := Lib.hid ((N2.out.mono (l' := [bl, bc]) (by simp)).trans (c1.mono (by simp)))
    have HNI := Lib.hid (show ∀ y, y ∈ b4 :: I → y ∈ I ∨ w.heap.size ≤ y from fun y hy => by
      rcases List.mem_cons.1 hy with h | h
      · have := N2.out.size; exact .inr (by omega)
      · exact .inl h)
    have m0 := c1.keep n1 (by simpa using HPN.out)
    have hbA := PA0.hc
    have HXB := Lib.hid (show (xs.set i { x with A := A4, n := (R.core i).L.length + 1, cap := p4 })[i]? = some { x with A := A4, n := (R.core i).L.length + 1, cap := p4 } from List.getElem?_set_self (List.getElem?_eq_some_iff.1 HX.out).1)
    clear K2 K4 K6 v nn kk PA0 c1 hb4 hb6 hb8 n1 hb1 n3 on3 c0 hs0 hx P1'
    generalize (w6.setCell ⟨bc, i * 6, none⟩ (.slice A4 ((R.core i).L.length + 1) p4)) = wA at *
    generalize ({ x with A := A4, n := (R.core i).L.length + 1, cap := p4 } : Ci) = xB at *
    generalize xs.set i xB = xsB at *
    obtain ⟨_, _, _, k0, _, _⟩ := ci_cells HXB.out
    go_upto_region 20 with fail
    have f1 : (wA.setCell ⟨bc, i * 6 + 3, none⟩ (.bool false)).heap[bc]? = some (.cells (sq Ci.enc (xsB.set i { xB with lk := false }) []) 82 (0, 0)) := by rw [heap_setCell, if_pos rfl, hbA, rowSet_some, ci_lk HXB.out]
    have g1 : Chg [bc] wA (wA.setCell ⟨bc, i * 6 + 3, none⟩ (.bool false)) := (Chg.refl [bc] wA).setCell _ _ _ (.inl (by simp))
    have m1 := g1.keep m0 (by simpa using HPN.out)
    generalize wA.setCell ⟨bc, i * 6 + 3, none⟩ (.bool false) = wB at *
    have hil : i < xsB.length := (List.getElem?_eq_some_iff.1 HXB.out).1
    have x1 : (xsB.set i { xB with lk := false })[i]? = some { xB with lk := false } := List.getElem?_set_self hil
    have h2 := ci_has (xs := xsB.set i { xB with lk := false }) (i := i) (by simpa using hil) 82
    have f2 : (putRow wB bc (i * 6 + 4) (spC 0 0)).heap[bc]? = some (.cells (sq Ci.enc (xsB.set i { xB with lk := false, pl := (0, 0) }) []) 82 (0, 0)) := by rw [heap_putRow _ _ _ _ _ (by rw [spC_size, f1]; exact h2), if_pos rfl, f1, ci_pl x1, List.set_set]
    have g2 : Chg [bc] wA (putRow wB bc (i * 6 + 4) (spC 0 0)) := g1.trans ((Chg.refl [bc] wB).putRow _ _ _ (.inl (by simp)))
    have m2 := ((Chg.refl [bc] wB).putRow bc (i * 6 + 4) (spC 0 0) (.inl (by simp))).keep m1 (by simpa using HPN.out)
    go_upto_region 21 with fail
    clear f1 m1 g1 h2 x1
    generalize putRow wB bc (i * 6 + 4) (spC 0 0) = wC at *
    have x2 : (xsB.set i { xB with lk := false, pl := (0, 0) })[i]? = some { xB with lk := false, pl := (0, 0) } := List.getElem?_set_self hil
    obtain ⟨_, _, _, k3, _, _⟩ := ci_cells x2
    dsimp only at k3
    clear k0
    have h4 : ¬ kd = 4 := by simpa using t4
    have DN := Lib.hid (PA.out.lock hi HXB.out ⟨kd, co, li, wo, va⟩ (b := false) (pl := (0, 0)) (by simp [h4]) (by simp [h4]) g2 f2)
    have CN := Lib.hid (CA.out.trans (g2.mono (by simp)))
    clear g2 x2 h4
    go_wp2_with fail
    go_end0
    exact ⟨rfl, _, _, (by rw [← lock_eq (R := R) LEN.out]; exact DN.out), CN.out, HNI.out⟩
  · obtain ⟨v, nn, kk⟩ := K6.out
    obtain ⟨PA0, c1⟩ := P1'.out.putL hi HX.out v (nK := (R.core i).L.length + 1) (by simp) nn kk (W := (w8.setCell ⟨bc, i * 6, none⟩ (.slice A6 ((R.core i).L.length + 1) p6))) rfl
    have PA := Lib.hid PA0
    have CA := Lib.hid ((N2.out.mono (l' := [bl, bc]) (by simp)).trans (c1.mono (by simp)))
    have HNI := Lib.hid (show ∀ y, y ∈ b6 :: I → y ∈ I ∨ w.heap.size ≤ y from fun y hy => by
      rcases List.mem_cons.1 hy with h | h
      · have := N2.out.size; exact .inr (by omega)
      · exact .inl h)
    have m0 := c1.keep n1 (by simpa using HPN.out)
    have hbA := PA0.hc
    have HXB := Lib.hid (show (xs.set i { x with A := A6, n := (R.core i).L.length + 1, cap := p6 })[i]? = some { x with A := A6, n := (R.core i).L.length + 1, cap := p6 } from List.getElem?_set_self (List.getElem?_eq_some_iff.1 HX.out).1)
    clear K2 K4 K6 v nn kk PA0 c1 hb4 hb6 hb8 n1 hb1 n3 on3 c0 hs0 hx P1'
    generalize (w8.setCell ⟨bc, i * 6, none⟩ (.slice A6 ((R.core i).L.length + 1) p6)) = wA at *
    generalize ({ x with A := A6, n := (R.core i).L.length + 1, cap := p6 } : Ci) = xB at *
    generalize xs.set i xB = xsB at *
    obtain ⟨_, _, _, k0, _, _⟩ := ci_cells HXB.out
    go_upto_region 20 with fail
    have f1 : (wA.setCell ⟨bc, i * 6 + 3, none⟩ (.bool false)).heap[bc]? = some (.cells (sq Ci.enc (xsB.set i { xB with lk := false }) []) 82 (0, 0)) := by rw [heap_setCell, if_pos rfl, hbA, rowSet_some, ci_lk HXB.out]
    have g1 : Chg [bc] wA (wA.setCell ⟨bc, i * 6 + 3, none⟩ (.bool false)) := (Chg.refl [bc] wA).setCell _ _ _ (.inl (by simp))
    have m1 := g1.keep m0 (by simpa using HPN.out)
    generalize wA.setCell ⟨bc, i * 6 + 3, none⟩ (.bool false) = wB at *
    have hil : i < xsB.length := (List.getElem?_eq_some_iff.1 HXB.out).1
    have x1 : (xsB.set i { xB with lk := false })[i]? = some { xB with lk := false } := List.getElem?_set_self hil
    have h2 := ci_has (xs := xsB.set i { xB with lk := false }) (i := i) (by simpa using hil) 82
    have f2 : (putRow wB bc (i * 6 + 4) (spC 0 0)).heap[bc]? = some (.cells (sq Ci.enc (xsB.set i { xB with lk := false, pl := (0, 0) }) []) 82 (0, 0)) := by rw [heap_putRow _ _ _ _ _ (by rw [spC_size, f1]; exact h2), if_pos rfl, f1, ci_pl x1, List.set_set]
    have g2 : Chg [bc] wA (putRow wB bc (i * 6 + 4) (spC 0 0)) := g1.trans ((Chg.refl [bc] wB).putRow _ _ _ (.inl (by simp)))
    have m2 := ((Chg.refl [bc] wB).putRow bc (i * 6 + 4) (spC 0 0) (.inl (by simp))).keep m1 (by simpa using HPN.out)
    go_upto_region 21 with fail
    clear f1 m1 g1 h2 x1
    generalize putRow wB bc (i * 6 + 4) (spC 0 0) = wC at *
    have x2 : (xsB.set i { xB with lk := false, pl := (0, 0) })[i]? = some { xB with lk := false, pl := (0, 0) } := List.getElem?_set_self hil
    obtain ⟨_, _, _, k3, _, _⟩ := ci_cells x2
    dsimp only at k3
    clear k0
    have h4 : ¬ kd = 4 := by simpa using t4
    have DN := Lib.hid (PA.out.lock hi HXB.out ⟨kd, co, li, wo, va⟩ (b := false) (pl := (0, 0)) (by simp [h4]) (by simp [h4]) g2 f2)
    have CN := Lib.hid (CA.out.trans (g2.mono (by simp)))
    clear g2 x2 h4
    go_wp2_with fail
    go_end0
    exact ⟨rfl, _, _, (by rw [← lock_eq (R := R) LEN.out]; exact DN.out), CN.out, HNI.out⟩
end
end Go.Proofs.Ytnocekhgabgffaa
end
section
namespace Go.Proofs.Ytnocekhgabgffaa
open Go.RowKit
set_option linter.unusedVariables false
set_option maxHeartbeats 1000000

set_option maxRecDepth 100000
attribute [local go_sem ↓] append_appS copy_copS clear_clrS make_mkS slice_slS lookup_lookS mput_mputS del_mdelS cell_row frozen_row heap_drew heap_drewN heap_alloc heap_past heap_setCell heap_putRow heap_setB loadEv storeEv loadBe storeBe loadSp storeSp loadNw storeNw loadLine storeLine evc_kd evc_co evc_li evc_wo evc_va bec_fl bec_li bec_wo bec_va nwC_0 nwC_1 spC_0 spC_1
attribute [local go_sem] rowCell_some rowFrozen_some rowHas_some rowIn_some rowPart_full rowPart_lit rowPut_full rowPut_lit rowSet_some size_putRow size_setB run_loadS run_storeS run_appS run_copS run_clrS run_mkS run_slS run_lookS run_mputS run_mdelS loadW_at storeW_at fit_all fit_le one_int one_bool one_pointer one_slice allOne_list putRow_new ne_size1 ne_size2 ne_size3 ne_size4 wideEv wideBe wideSp wideNw wideLine evc_size evc_one evc_ne evc_lit evc_z fold_evc bec_size bec_one bec_lit bec_ne bec_at bec_in spC_size spC_one nwC_size nwC_one nwC_ne nwC_set0 nwC_set1 nwC_lit bec_set0 bec_set1 bec_set2 bec_set3 spC_set0 spC_set1 spC_lit fold_spC spC_ne fold_nwC fold_bec fold_at vs_size vs_one ic_size ic_get
attribute [local simp ↓] heap_drew heap_drewN heap_alloc heap_past heap_setCell heap_putRow heap_setB
attribute [local simp] rowCell_some rowFrozen_some rowHas_some rowIn_some rowPart_full rowPart_lit rowPut_full rowPut_lit rowSet_some size_putRow size_setB fit_all putRow_new ne_size1 ne_size2 ne_size3 ne_size4 evc_size bec_size spC_size nwC_size vs_size fit_le
attribute [local go_sem ↓] loadIt storeIt loadSn storeSn loadPl storePl
attribute [local go_sem] wideIt wideSn widePl
section
variable {z : Cf} {w w' : World} {q bl kb bp bc ck : Nat} {I : List Nat} {xs : List Ci} {R : Rb} {N : Nat}
theorem isOfB_nat {a : Int} {n : Nat} (h : isOfB a n = true) : ∃ i : Nat, a = i ∧ i < n := by
  unfold isOfB at h
  simp at h
  exact ⟨a.toNat, by omega, by omega⟩
theorem has_cases {e : Ev} (ok : R.Ok z N) (hh : hasR R e = true) : (e.kd = 1 ∨ e.kd = 2 ∨ e.kd = 3 ∨ e.kd = 4 ∨ e.kd = 5 ∨ e.kd = 6 ∨ e.kd = 7 ∨ e.kd = 8 ∨ e.kd = 9 ∨ e.kd = 10 ∨ e.kd = 11 ∨ e.kd = 12 ∨ e.kd = 13 ∨ e.kd = 14) ∧ (namesC e.kd = true → ∃ i : Nat, e.co = i ∧ i < z.m) ∧ (namesL e.kd = true → ∃ l : Nat, e.li = l ∧ l < z.n) ∧ (namesW e.kd = true → ∃ o : Nat, e.wo = o ∧ o < 8) := by
  unfold hasR at hh
  rw [ok.cs, ok.ps] at hh
  simp only [Bool.and_eq_true, Bool.or_eq_true, Bool.not_eq_true'] at hh
  obtain ⟨hk, ⟨hC, hL⟩, hW⟩ := hh
  refine ⟨?_, fun hn => ?_, fun hn => ?_, fun hn => ?_⟩
  · unfold kindB at hk
    have : 1 ≤ e.kd ∧ e.kd ≤ 14 := by simpa using hk
    omega
  · rcases hC with hC | hC
    · rw [hC] at hn; cases hn
    · exact isOfB_nat hC
  · rcases hL with hL | hL
    · rw [hL] at hn; cases hn
    · exact isOfB_nat hL
  · rcases hW with hW | hW
    · rw [hW] at hn; cases hn
    · exact isOfB_nat hW
theorem may_any (P : DbP z w q bl kb bp bc ck I xs R) (ok : R.Ok z N) (hN : N ≤ 1000) {kd co li wo va : Int} (hh : hasR R ⟨kd, co, li, wo, va⟩ = true) (h5 : kd ≠ 5) (h11 : kd ≠ 11) {i : Nat} (hco : co = i) (hi : i < z.m) (r : Bool) (hr : r = mayR R (R.core i) ⟨kd, co, li, wo, va⟩) :
    Calls Try.prog 29 #[.pointer (some ⟨q, 0, none⟩), .pointer (some ⟨bc, i * 6, none⟩), .agg (evc ⟨kd, co, li, wo, va⟩)] w fun e w' => e = .returned (.bool r) ∧ Chg [] w w' := by
  obtain ⟨hk, hC, hL, hW⟩ := has_cases ok hh
  simp only at hk hC hL hW
  subst hco
  rcases hk with rfl | rfl | rfl | rfl | rfl | rfl | rfl | rfl | rfl | rfl | rfl | rfl | rfl | rfl
  · obtain ⟨l, rfl, hl⟩ := hL rfl
    obtain ⟨o, rfl, ho⟩ := hW rfl
    exact may_1 P ok hN hi 1 i l o va rfl rfl l o hl ho rfl rfl r hr
  · obtain ⟨l, rfl, hl⟩ := hL rfl
    obtain ⟨o, rfl, ho⟩ := hW rfl
    exact may_2 P ok hN hi 2 i l o va rfl l o rfl rfl r hr
  · exact may_3 P ok hN hi 3 i li wo va rfl rfl rfl rfl rfl r hr
  · obtain ⟨l, rfl, hl⟩ := hL rfl
    obtain ⟨o, rfl, ho⟩ := hW rfl
    exact may_4 P ok hN hi 4 i l o va rfl rfl rfl l o hl ho rfl rfl r hr
  · exact absurd rfl h5
  · obtain ⟨l, rfl, hl⟩ := hL rfl
    exact may_6 P ok hN hi 6 i l wo va rfl rfl rfl rfl rfl rfl rfl l hl rfl r hr
  · exact may_7 P ok hN hi 7 i li wo va rfl rfl rfl rfl r hr
  · exact may_other P ok hN hi 8 i li wo va rfl rfl rfl rfl rfl rfl rfl r hr
  · exact may_other P ok hN hi 9 i li wo va rfl rfl rfl rfl rfl rfl rfl r hr
  · exact may_other P ok hN hi 10 i li wo va rfl rfl rfl rfl rfl rfl rfl r hr
  · exact absurd rfl h11
  · exact may_other P ok hN hi 12 i li wo va rfl rfl rfl rfl rfl rfl rfl r hr
  · exact may_13 P ok hN hi 13 i li wo va rfl rfl rfl rfl rfl rfl r hr
  · exact may_other P ok hN hi 14 i li wo va rfl rfl rfl rfl rfl rfl rfl r hr
theorem done_any (P : DbP z w q bl kb bp bc ck I xs R) (ok : R.Ok z N) (hN : N ≤ 1000) {kd co li wo va : Int} (hh : hasR R ⟨kd, co, li, wo, va⟩ = true) (h5 : kd ≠ 5) (h11 : kd ≠ 11) {i : Nat} (hco : co = i) (hi : i < z.m) (hm : mayR R (R.core i) ⟨kd, co, li, wo, va⟩ = true) :
    Calls Try.prog 30 #[.pointer (some ⟨q, 0, none⟩), .pointer (some ⟨bc, i * 6, none⟩), .agg (evc ⟨kd, co, li, wo, va⟩)] w (DoneTo z w q bl kb bp bc ck I (doneR R ⟨kd, co, li, wo, va⟩)) := by
  obtain ⟨hk, hC, hL, hW⟩ := has_cases ok hh
  simp only at hk hC hL hW
  subst hco
  rcases hk with rfl | rfl | rfl | rfl | rfl | rfl | rfl | rfl | rfl | rfl | rfl | rfl | rfl | rfl
  · exact done_rest_false P ok hN hi 1 i li wo va rfl rfl rfl rfl rfl rfl rfl rfl
  · exact done_rest_false P ok hN hi 2 i li wo va rfl rfl rfl rfl rfl rfl rfl rfl
  · obtain ⟨l, rfl, hl⟩ := hL rfl
    obtain ⟨o, rfl, ho⟩ := hW rfl
    have he : doneR R ⟨3, i, l, o, va⟩ = (R.setW l o va).setC i (lockC (if firstR (R.core i) ⟨false, l, o, va⟩ then { R.core i with L := (R.core i).L.tail } else R.core i) ⟨3, i, l, o, va⟩) := rfl
    rw [he]
    cases hf : firstR (R.core i) ⟨false, l, o, va⟩ with
    | true => rw [if_pos rfl]; exact done_3yes P ok hN hi 3 i l o va rfl rfl rfl rfl l o hl ho rfl rfl hf
    | false => rw [if_neg (by simp)]; exact done_3no P ok hN hi 3 i l o va rfl rfl rfl rfl l o hl ho rfl rfl hf
  · exact done_rest_true P ok hN hi 4 i li wo va rfl rfl rfl rfl rfl rfl rfl rfl
  · exact absurd rfl h5
  · obtain ⟨l, rfl, hl⟩ := hL rfl
    have he : doneR R ⟨6, i, l, wo, va⟩ = R.setC i (lockC (match sentI (R.core i).S l with | none => R.core i | some k => { R.core i with S := (R.core i).S.take k ++ (R.core i).S.drop (k + 1) }) ⟨6, i, l, wo, va⟩) := rfl
    have hm2 : (match sentI (R.core i).S l with | none => false | some k => decide (((R.core i).S.getD k (0, 0)).2 < R.ps.getD l 0)) = true := hm
    rw [he]
    cases hs : sentI (R.core i).S l with
    | none => rw [hs] at hm2; cases hm2
    | some k => exact done_6 P ok hN hi 6 i l wo va rfl rfl rfl rfl rfl rfl l k rfl hs
  · exact done_rest_false P ok hN hi 7 i li wo va rfl rfl rfl rfl rfl rfl rfl rfl
  · exact done_rest_false P ok hN hi 8 i li wo va rfl rfl rfl rfl rfl rfl rfl rfl
  · exact done_9 P ok hN hi 9 i li wo va rfl rfl rfl rfl rfl rfl rfl
  · exact done_10 P ok hN hi 10 i li wo va rfl rfl rfl rfl rfl rfl rfl rfl
  · exact absurd rfl h11
  · exact done_12 P ok hN hi 12 i li wo va rfl rfl
  · obtain ⟨l, rfl, hl⟩ := hL rfl
    exact done_13 P ok hN hi 13 i l wo va rfl rfl rfl rfl rfl l hl rfl hm
  · exact done_14 P ok hN hi 14 i li wo va rfl rfl rfl
end
end Go.Proofs.Ytnocekhgabgffaa
end
section
namespace Go.Proofs.Ytnocekhgabgffaa
open Go.RowKit
set_option linter.unusedVariables false
set_option maxHeartbeats 1000000

set_option maxRecDepth 100000
attribute [local go_sem ↓] append_appS copy_copS clear_clrS make_mkS slice_slS lookup_lookS mput_mputS del_mdelS cell_row frozen_row heap_drew heap_drewN heap_alloc heap_past heap_setCell heap_putRow heap_setB loadEv storeEv loadBe storeBe loadSp storeSp loadNw storeNw loadLine storeLine evc_kd evc_co evc_li evc_wo evc_va bec_fl bec_li bec_wo bec_va nwC_0 nwC_1 spC_0 spC_1
attribute [local go_sem] rowCell_some rowFrozen_some rowHas_some rowIn_some rowPart_full rowPart_lit rowPut_full rowPut_lit rowSet_some size_putRow size_setB run_loadS run_storeS run_appS run_copS run_clrS run_mkS run_slS run_lookS run_mputS run_mdelS loadW_at storeW_at fit_all fit_le one_int one_bool one_pointer one_slice allOne_list putRow_new ne_size1 ne_size2 ne_size3 ne_size4 wideEv wideBe wideSp wideNw wideLine evc_size evc_one evc_ne evc_lit evc_z fold_evc bec_size bec_one bec_lit bec_ne bec_at bec_in spC_size spC_one nwC_size nwC_one nwC_ne nwC_set0 nwC_set1 nwC_lit bec_set0 bec_set1 bec_set2 bec_set3 spC_set0 spC_set1 spC_lit fold_spC spC_ne fold_nwC fold_bec fold_at vs_size vs_one ic_size ic_get
attribute [local simp ↓] heap_drew heap_drewN heap_alloc heap_past heap_setCell heap_putRow heap_setB
attribute [local simp] rowCell_some rowFrozen_some rowHas_some rowIn_some rowPart_full rowPart_lit rowPut_full rowPut_lit rowSet_some size_putRow size_setB fit_all putRow_new ne_size1 ne_size2 ne_size3 ne_size4 evc_size bec_size spC_size nwC_size vs_size fit_le
attribute [local go_sem ↓] loadIt storeIt loadSn storeSn loadPl storePl
attribute [local go_sem] wideIt wideSn widePl wideCf lit8
section
variable {z : Cf} {w w' : World} {q bl kb bp bc ck : Nat} {I : List Nat} {xs : List Ci} {R : Rb} {N : Nat}
/-- Other kept lines. -/
theorem DbP.setK {X : List Int} {r : List Value} (h : DbP z w q bl kb bp bc ck I xs R) (hc : Chg [kb] w w') (hl : w'.heap[kb]? = some (.cells (bk X r) 44 (0, 0))) : DbP z w' q bl kb bp bc ck I xs { R with ks := X } := by
  have nd := h.nd
  simp only [List.nodup_cons, List.mem_cons, List.not_mem_nil, or_false, not_or, List.nodup_nil, not_false_eq_true, and_true] at nd
  obtain ⟨⟨a1, a2, a3, a4⟩, ⟨b2, b3, b4⟩, ⟨c3, c4⟩, d4⟩ := nd
  have hI : ∀ y ∈ I, y ∉ [kb] := fun y hy h2 => h.iF y hy (by simp only [List.mem_singleton] at h2; simp [h2])
  exact ⟨hc.keep h.hq (by simpa using a2), hc.keep h.hl (by simpa using b2), ⟨r, hl⟩, hc.keep h.hp (by simpa using Ne.symm c3), hc.keep h.hc (by simpa using Ne.symm c4), h.lx, h.lc, fun i x c h1 h2 => (h.co i x c h1 h2).keep hc hI, h.nd, h.iF, fun y hy => Nat.lt_of_lt_of_le (h.iO y hy) hc.size⟩
/-- Other counts of pushes. -/
theorem DbP.setP {X : List Int} (h : DbP z w q bl kb bp bc ck I xs R) (hc : Chg [bp] w w') (hl : w'.heap[bp]? = some (.cells (ic X) 3 (0, 0))) : DbP z w' q bl kb bp bc ck I xs { R with ps := X } := by
  obtain ⟨r, hr⟩ := h.hk
  have nd := h.nd
  simp only [List.nodup_cons, List.mem_cons, List.not_mem_nil, or_false, not_or, List.nodup_nil, not_false_eq_true, and_true] at nd
  obtain ⟨⟨a1, a2, a3, a4⟩, ⟨b2, b3, b4⟩, ⟨c3, c4⟩, d4⟩ := nd
  have hI : ∀ y ∈ I, y ∉ [bp] := fun y hy h2 => h.iF y hy (by simp only [List.mem_singleton] at h2; simp [h2])
  exact ⟨hc.keep h.hq (by simpa using a3), hc.keep h.hl (by simpa using b3), ⟨r, hc.keep hr (by simpa using c3)⟩, hl, hc.keep h.hc (by simpa using Ne.symm d4), h.lx, h.lc, fun i x c h1 h2 => (h.co i x c h1 h2).keep hc hI, h.nd, h.iF, fun y hy => Nat.lt_of_lt_of_le (h.iO y hy) hc.size⟩
/-- What 'Do' leaves: another bus, its items' blocks old or new. -/
def DoTo18 (z : Cf) (w : World) (q bl kb bp bc ck : Nat) (I : List Nat) (R : Rb) (o : Option Rb) (v : Ending) (w' : World) : Prop :=
  v = .returned (.bool o.isSome) ∧ ∃ bc' I' xs', DbP z w' q bl kb bp bc' ck I' xs' (o.getD R) ∧ Chg [q, bl, kb, bp, bc] w w' ∧ (bc' = bc ∨ w.heap.size ≤ bc') ∧ ∀ y ∈ I', y ∈ I ∨ w.heap.size ≤ y
theorem rdo_off (P : DbP z w q bl kb bp bc ck I xs R) (ok : R.Ok z N) (hN : N ≤ 1000) (kd co li wo va : Int) (hh : hasR R ⟨kd, co, li, wo, va⟩ = false) :
    Calls Try.prog 19 #[.pointer (some ⟨q, 0, none⟩), .agg (evc ⟨kd, co, li, wo, va⟩)] w (DoTo18 z w q bl kb bp bc ck I R (none)) := by
  obtain ⟨n1, n2⟩ := one_new w (.cells (evc ⟨kd, co, li, wo, va⟩) 41)
  have P1 := Lib.hid (P.keep n2 (by simp))
  have hno : ∀ b, b ∈ [q, bl, kb, bp, bc] ++ I → w.heap.size ≠ b := fun b hb h => by have := P.old b hb; omega
  have HNO := Lib.hid hno
  have N2 := Lib.hid n2
  clear n2 P hno
  go_enter Try.func19, Try.ntmps19
  try dsimp only [List.append]
  go_upto_region 1 with fail
  generalize w.alloc (.cells (evc ⟨kd, co, li, wo, va⟩) 41) = w1 at *
  generalize hp : w.heap.size = p at *
  go_wp2_with (go_at_call 27; refine (rthere_any P1.out ok ⟨kd, co, li, wo, va⟩ false hh.symm).mono ?_; rintro e w3 ⟨rfl, c9⟩; have n3 := c9.keep n1 List.not_mem_nil; have P3 := Lib.hid (P1.out.keep c9 (fun _ _ => List.not_mem_nil)); have C3 := Lib.hid (N2.out.trans c9); clear c9)
  go_ret
  exact ⟨rfl, _, _, _, P3.out, C3.out.mono (by simp), .inl rfl, fun y h => .inl h⟩
theorem rdo_fail (P : DbP z w q bl kb bp bc ck I xs R) (ok : R.Ok z N) (hN : N ≤ 1000) (kd co li wo va : Int) (hh : hasR R ⟨kd, co, li, wo, va⟩ = true) (t5 : (kd == 5) = false) (t11 : (kd == 11) = true) :
    Calls Try.prog 19 #[.pointer (some ⟨q, 0, none⟩), .agg (evc ⟨kd, co, li, wo, va⟩)] w (DoTo18 z w q bl kb bp bc ck I R (some R.fail)) := by
  obtain ⟨n1, n2⟩ := one_new w (.cells (evc ⟨kd, co, li, wo, va⟩) 41)
  have P1 := Lib.hid (P.keep n2 (by simp))
  have hno : ∀ b, b ∈ [q, bl, kb, bp, bc] ++ I → w.heap.size ≠ b := fun b hb h => by have := P.old b hb; omega
  have HNO := Lib.hid hno
  have N2 := Lib.hid n2
  clear n2 P hno
  go_enter Try.func19, Try.ntmps19
  try dsimp only [List.append]
  go_upto_region 1 with fail
  generalize w.alloc (.cells (evc ⟨kd, co, li, wo, va⟩) 41) = w1 at *
  generalize hp : w.heap.size = p at *
  go_upto_region 11 with (go_at_call 27; refine (rthere_any P1.out ok ⟨kd, co, li, wo, va⟩ true hh.symm).mono ?_; rintro e w3 ⟨rfl, c9⟩; have n3 := c9.keep n1 List.not_mem_nil; have P3 := Lib.hid (P1.out.keep c9 (fun _ _ => List.not_mem_nil)); have C3 := Lib.hid (N2.out.trans c9); clear c9)
  go_wp2_with (go_at_call 28; refine (rfail_any P3.out ok).mono ?_; rintro e w4 ⟨rfl, bc', P4, c4, h4⟩; have P5 := Lib.hid P4; have C4 := Lib.hid ((C3.out.mono (by simp)).trans (c4.mono (l' := [q, bl, kb, bp, bc]) (by simp))); have G4 := Lib.hid (show p ≤ bc' by have := C3.out.size; omega); clear c4 h4 P4)
  go_ret
  exact ⟨rfl, bc', [], _, P5.out, C4.out, .inr (by have := G4.out; omega), fun y h => by cases h⟩
theorem rdo_pushv (P : DbP z w q bl kb bp bc ck I xs R) (ok : R.Ok z N) (hN : N ≤ 1000) (kd co li wo va : Int) (l : Nat) (hl : l < z.n) (hli : li = l) (hv : l < z.v) (hh : hasR R ⟨kd, co, li, wo, va⟩ = true) (t5 : (kd == 5) = true) :
    Calls Try.prog 19 #[.pointer (some ⟨q, 0, none⟩), .agg (evc ⟨kd, co, li, wo, va⟩)] w (DoTo18 z w q bl kb bp bc ck I R (some (R.push l))) := by
  subst hli
  obtain ⟨n1, n2⟩ := one_new w (.cells (evc ⟨kd, co, (l : Int), wo, va⟩) 41)
  have P1 := Lib.hid (P.keep n2 (by simp))
  have hno : ∀ b, b ∈ [q, bl, kb, bp, bc] ++ I → w.heap.size ≠ b := fun b hb h => by have := P.old b hb; omega
  have HNO := Lib.hid hno
  have N2 := Lib.hid n2
  clear n2 P hno
  go_enter Try.func19, Try.ntmps19
  try dsimp only [List.append]
  go_upto_region 1 with fail
  generalize w.alloc (.cells (evc ⟨kd, co, (l : Int), wo, va⟩) 41) = w1 at *
  generalize hp : w.heap.size = p at *
  go_upto_region 5 with (go_at_call 27; refine (rthere_any P1.out ok ⟨kd, co, (l : Int), wo, va⟩ true hh.symm).mono ?_; rintro e w3 ⟨rfl, c9⟩; have n3 := c9.keep n1 List.not_mem_nil; have P3 := Lib.hid (P1.out.keep c9 (fun _ _ => List.not_mem_nil)); have C3 := Lib.hid (N2.out.trans c9); clear c9)
  have hvi : ((l : Int) < (z.v : Int)) := by omega
  have hq3 := P3.out.hq
  have hl3 := P3.out.hl
  obtain ⟨r, hk3⟩ := P3.out.hk
  unfold dbc at hq3
  have u0 : (0 : Int) ≤ (l : Int) := by omega
  have u1 : (l : Int) < (z.n : Int) := by omega
  have hls := ok.ls
  have hks := ok.ks
  have hps := ok.ps
  have ft1 : Fit (l * 8) 8 R.ls.length := by unfold Fit; omega
  have ft2 : Fit (l * 8) 8 R.ks.length := by unfold Fit; omega
  have hl8 := ln_length _ _ ft1
  have q1 := fun f => rowIn_bk ft1 [] 44 f
  have q2 := fun f => rowPart_bk ft1 [] 44 f
  have q3 := rowHas_bk ft2 r 44
  have q4 := fun f => rowPut_bk (xs := R.ks) (l := ln R.ls l) (i := l) (by rw [hl8]; exact ft2) r 44 f
  have hc8 : (vs (ln R.ls l)).size = 8 := by rw [vs_size, hl8]
  have HC8 := Lib.hid hc8
  have FT := Lib.hid ft2
  have HL8 := Lib.hid hl8
  have HKS := Lib.hid hks
  clear ft1 ft2 hl8 hks
  go_region
  have f1 : (putRow w3.drew kb (l * 8) (vs (ln R.ls l))).heap[kb]? = some (.cells (bk (lnPut R.ks l (ln R.ls l)) r) 44 (0, 0)) := by rw [heap_putRow _ _ _ _ _ (by rw [HC8.out, heap_drew, hk3]; exact q3), if_pos rfl, heap_drew, hk3, q4]
  have cf : Chg [kb] w3 (putRow w3.drew kb (l * 8) (vs (ln R.ls l))) := (Chg.refl [kb] w3).drew.putRow _ _ _ (.inl (by simp))
  have n4 := cf.keep n3 (by simpa using HNO.out kb (by simp))
  have P4 := Lib.hid (P3.out.setK cf f1)
  have C4 := Lib.hid ((C3.out.mono (by simp)).trans (cf.mono (l' := [q, bl, kb, bp, bc]) (by simp)))
  clear hl3 hk3 q1 q2 q3 q4 hc8 hq3 cf n3
  generalize putRow w3.drew kb (l * 8) (vs (ln R.ls l)) = w4 at *
  have hq4 := P4.out.hq
  unfold dbc at hq4
  have hX2 : (lnPut R.ks l (ln R.ls l)).length = z.n * 8 := by rw [lnPut_length _ _ _ FT.out HL8.out, HKS.out]
  go_upto_region 6 with fail
  go_region
  have n5 : w4.drew.heap[p]? = some (.cells (evc ⟨kd, co, (l : Int), wo, va⟩) 41 (0, 0)) := by rw [heap_drew]; exact n4
  have f5 : w4.drew.heap[kb]? = some (.cells (bk (lnPut R.ks l (ln R.ls l)) r) 44 (0, 0)) := by rw [heap_drew]; exact f1
  have hq5 := hq4
  rw [← heap_drew] at hq5
  have cd : Chg [] w4 w4.drew := (Chg.refl [] w4).drew
  have P5 := Lib.hid (P4.out.keep cd (fun _ _ => List.not_mem_nil))
  have C5 := Lib.hid (C4.out.trans (cd.mono (by simp)))
  clear hq4 n4 f1 cd P4
  generalize w4.drew = w5 at *
  have ft3 : Fit (l * 8) 8 (lnPut R.ks l (ln R.ls l)).length := by have := FT.out.out; unfold Fit; omega
  have q5 := rowHas_bk ft3 r 44
  have q6 := fun f => rowPut_bk (xs := lnPut R.ks l (ln R.ls l)) (l := zln) (i := l) ft3 r 44 f
  have hz8 : (vs zln).size = 8 := rfl
  have HX2 := Lib.hid hX2
  clear hX2 ft3
  have hl6 := hv
  go_upto_region 7 with fail
  go_region
  have f6 : (putRow w5.drew kb (l * 8) (vs [0, 0, 0, 0, 0, 0, 0, 0])).heap[kb]? = some (.cells (bk (lnPut (lnPut R.ks l (ln R.ls l)) l zln) r) 44 (0, 0)) := by show (putRow w5.drew kb (l * 8) (vs zln)).heap[kb]? = _; rw [heap_putRow _ _ _ _ _ (by rw [hz8, heap_drew, f5]; exact q5), if_pos rfl, heap_drew, f5, q6]
  have cf : Chg [kb] w5 (putRow w5.drew kb (l * 8) (vs [0, 0, 0, 0, 0, 0, 0, 0])) := (Chg.refl [kb] w5).drew.putRow _ _ _ (.inl (by simp))
  have n6 := cf.keep n5 (by simpa using HNO.out kb (by simp))
  have P6 := Lib.hid (P5.out.setK cf f6)
  have C6 := Lib.hid (C5.out.trans (cf.mono (by simp)))
  clear q5 q6 hz8 hq5 f5 f6 n5 cf
  generalize putRow w5.drew kb (l * 8) (vs [0, 0, 0, 0, 0, 0, 0, 0]) = w6 at *
  have ft3 : Fit (l * 8) 8 (lnPut R.ks l (ln R.ls l)).length := by have := FT.out.out; have := HX2.out; unfold Fit; omega
  have hK := Lib.hid (show lnPut (lnPut R.ks l (ln R.ls l)) l zln = lnPut R.ks l zln from lnPut_twice FT.out HL8.out rfl)
  have hE := Lib.hid (show R.push l = { R with ks := lnPut R.ks l zln, ps := R.ps.set l (R.ps.getD l 0 + 1) } by unfold Rb.push; rw [if_pos (by rw [ok.vol]; exact hv)])
  have hq6 := P6.out.hq
  unfold dbc at hq6
  have hp6 : w6.heap[bp]? = some (.cells (ic R.ps) 3 (0, 0)) := P6.out.hp
  have hpl : l < R.ps.length := by omega
  have hp5 := ic_num hpl
  have hpb : 0 ≤ R.ps.getD l 0 ∧ R.ps.getD l 0 ≤ 1000 := by
    rw [List.getD_eq_getElem?_getD, List.getElem?_eq_getElem hpl]
    have := ok.pb _ (List.getElem_mem hpl)
    simp only [Option.getD_some]
    omega
  obtain ⟨hb0, hb1⟩ := hpb
  have f7 : (w6.setCell ⟨bp, l, none⟩ (.int .i64 (R.ps.getD l 0 + 1))).drew.heap[bp]? = some (.cells (ic (R.ps.set l (R.ps.getD l 0 + 1))) 3 (0, 0)) := by rw [heap_drew, heap_setCell, if_pos rfl, hp6, rowSet_some, ic_set]
  have c7 : Chg [bp] w6 (w6.setCell ⟨bp, l, none⟩ (.int .i64 (R.ps.getD l 0 + 1))).drew := ((Chg.refl [bp] w6).setCell _ _ _ (.inl (by simp))).drew
  have PT := P6.out.setP c7 f7
  have C7 := Lib.hid (C6.out.trans (c7.mono (by simp)))
  have PF := Lib.hid (show DbP z (w6.setCell ⟨bp, l, none⟩ (.int .i64 (R.ps.getD l 0 + 1))).drew q bl kb bp bc ck I xs (R.push l) by have h := PT; dsimp only at h; rw [hK.out] at h; rw [hE.out]; exact h)
  clear PT c7 f7 hpl hps
  generalize ic R.ps = PAr at hp5 hp6
  generalize R.ps.getD l 0 = pv at *
  go_upto_region 8 with fail
  go_region
  generalize (w6.setCell ⟨bp, l, none⟩ (.int .i64 (pv + 1))).drew = w7 at *
  go_wp2_with fail
  go_ret
  exact ⟨rfl, _, _, _, PF.out, C7.out, .inl rfl, fun y h => .inl h⟩
theorem rdo_pushn (P : DbP z w q bl kb bp bc ck I xs R) (ok : R.Ok z N) (hN : N ≤ 1000) (kd co li wo va : Int) (l : Nat) (hl : l < z.n) (hli : li = l) (hv : ¬ l < z.v) (hh : hasR R ⟨kd, co, li, wo, va⟩ = true) (t5 : (kd == 5) = true) :
    Calls Try.prog 19 #[.pointer (some ⟨q, 0, none⟩), .agg (evc ⟨kd, co, li, wo, va⟩)] w (DoTo18 z w q bl kb bp bc ck I R (some (R.push l))) := by
  subst hli
  obtain ⟨n1, n2⟩ := one_new w (.cells (evc ⟨kd, co, (l : Int), wo, va⟩) 41)
  have P1 := Lib.hid (P.keep n2 (by simp))
  have hno : ∀ b, b ∈ [q, bl, kb, bp, bc] ++ I → w.heap.size ≠ b := fun b hb h => by have := P.old b hb; omega
  have HNO := Lib.hid hno
  have N2 := Lib.hid n2
  clear n2 P hno
  go_enter Try.func19, Try.ntmps19
  try dsimp only [List.append]
  go_upto_region 1 with fail
  generalize w.alloc (.cells (evc ⟨kd, co, (l : Int), wo, va⟩) 41) = w1 at *
  generalize hp : w.heap.size = p at *
  go_upto_region 5 with (go_at_call 27; refine (rthere_any P1.out ok ⟨kd, co, (l : Int), wo, va⟩ true hh.symm).mono ?_; rintro e w3 ⟨rfl, c9⟩; have n3 := c9.keep n1 List.not_mem_nil; have P3 := Lib.hid (P1.out.keep c9 (fun _ _ => List.not_mem_nil)); have C3 := Lib.hid (N2.out.trans c9); clear c9)
  have hvi : ¬ ((l : Int) < (z.v : Int)) := by omega
  have hq3 := P3.out.hq
  have hl3 := P3.out.hl
  obtain ⟨r, hk3⟩ := P3.out.hk
  unfold dbc at hq3
  have u0 : (0 : Int) ≤ (l : Int) := by omega
  have u1 : (l : Int) < (z.n : Int) := by omega
  have hls := ok.ls
  have hks := ok.ks
  have hps := ok.ps
  have ft1 : Fit (l * 8) 8 R.ls.length := by unfold Fit; omega
  have ft2 : Fit (l * 8) 8 R.ks.length := by unfold Fit; omega
  have hl8 := ln_length _ _ ft1
  have q1 := fun f => rowIn_bk ft1 [] 44 f
  have q2 := fun f => rowPart_bk ft1 [] 44 f
  have q3 := rowHas_bk ft2 r 44
  have q4 := fun f => rowPut_bk (xs := R.ks) (l := ln R.ls l) (i := l) (by rw [hl8]; exact ft2) r 44 f
  have hc8 : (vs (ln R.ls l)).size = 8 := by rw [vs_size, hl8]
  have HC8 := Lib.hid hc8
  have FT := Lib.hid ft2
  have HL8 := Lib.hid hl8
  have HKS := Lib.hid hks
  clear ft1 ft2 hl8 hks
  go_region
  have f1 : (putRow w3.drew kb (l * 8) (vs (ln R.ls l))).heap[kb]? = some (.cells (bk (lnPut R.ks l (ln R.ls l)) r) 44 (0, 0)) := by rw [heap_putRow _ _ _ _ _ (by rw [HC8.out, heap_drew, hk3]; exact q3), if_pos rfl, heap_drew, hk3, q4]
  have cf : Chg [kb] w3 (putRow w3.drew kb (l * 8) (vs (ln R.ls l))) := (Chg.refl [kb] w3).drew.putRow _ _ _ (.inl (by simp))
  have n4 := cf.keep n3 (by simpa using HNO.out kb (by simp))
  have P4 := Lib.hid (P3.out.setK cf f1)
  have C4 := Lib.hid ((C3.out.mono (by simp)).trans (cf.mono (l' := [q, bl, kb, bp, bc]) (by simp)))
  clear hl3 hk3 q1 q2 q3 q4 hc8 hq3 cf n3
  generalize putRow w3.drew kb (l * 8) (vs (ln R.ls l)) = w4 at *
  have hq4 := P4.out.hq
  unfold dbc at hq4
  have hX2 : (lnPut R.ks l (ln R.ls l)).length = z.n * 8 := by rw [lnPut_length _ _ _ FT.out HL8.out, HKS.out]
  go_upto_region 6 with fail
  go_region
  have n5 : w4.drew.heap[p]? = some (.cells (evc ⟨kd, co, (l : Int), wo, va⟩) 41 (0, 0)) := by rw [heap_drew]; exact n4
  have f5 : w4.drew.heap[kb]? = some (.cells (bk (lnPut R.ks l (ln R.ls l)) r) 44 (0, 0)) := by rw [heap_drew]; exact f1
  have hq5 := hq4
  rw [← heap_drew] at hq5
  have cd : Chg [] w4 w4.drew := (Chg.refl [] w4).drew
  have P5 := Lib.hid (P4.out.keep cd (fun _ _ => List.not_mem_nil))
  have C5 := Lib.hid (C4.out.trans (cd.mono (by simp)))
  clear hq4 n4 f1 cd P4
  generalize w4.drew = w5 at *
  have hE := Lib.hid (show R.push l = { R with ks := lnPut R.ks l (ln R.ls l), ps := R.ps.set l (R.ps.getD l 0 + 1) } by unfold Rb.push; rw [if_neg (by rw [ok.vol]; exact hv)])
  have hp6 : w5.heap[bp]? = some (.cells (ic R.ps) 3 (0, 0)) := P5.out.hp
  have hpl : l < R.ps.length := by omega
  have hp5 := ic_num hpl
  have hpb : 0 ≤ R.ps.getD l 0 ∧ R.ps.getD l 0 ≤ 1000 := by
    rw [List.getD_eq_getElem?_getD, List.getElem?_eq_getElem hpl]
    have := ok.pb _ (List.getElem_mem hpl)
    simp only [Option.getD_some]
    omega
  obtain ⟨hb0, hb1⟩ := hpb
  have f7 : (w5.setCell ⟨bp, l, none⟩ (.int .i64 (R.ps.getD l 0 + 1))).drew.heap[bp]? = some (.cells (ic (R.ps.set l (R.ps.getD l 0 + 1))) 3 (0, 0)) := by rw [heap_drew, heap_setCell, if_pos rfl, hp6, rowSet_some, ic_set]
  have c7 : Chg [bp] w5 (w5.setCell ⟨bp, l, none⟩ (.int .i64 (R.ps.getD l 0 + 1))).drew := ((Chg.refl [bp] w5).setCell _ _ _ (.inl (by simp))).drew
  have PT := P5.out.setP c7 f7
  have C7 := Lib.hid (C5.out.trans (c7.mono (by simp)))
  have PF := Lib.hid (show DbP z (w5.setCell ⟨bp, l, none⟩ (.int .i64 (R.ps.getD l 0 + 1))).drew q bl kb bp bc ck I xs (R.push l) by have h := PT; dsimp only at h; rw [hE.out]; exact h)
  clear PT c7 f7 hpl hps
  generalize ic R.ps = PAr at hp5 hp6
  generalize R.ps.getD l 0 = pv at *
  go_upto_region 8 with fail
  go_region
  generalize (w5.setCell ⟨bp, l, none⟩ (.int .i64 (pv + 1))).drew = w7 at *
  go_wp2_with fail
  go_ret
  exact ⟨rfl, _, _, _, PF.out, C7.out, .inl rfl, fun y h => .inl h⟩
theorem rdo_stopped (P : DbP z w q bl kb bp bc ck I xs R) (ok : R.Ok z N) (hN : N ≤ 1000) (kd co li wo va : Int) (i : Nat) (hi : i < z.m) (hci : co = i) (hh : hasR R ⟨kd, co, li, wo, va⟩ = true) (t5 : (kd == 5) = false) (t11 : (kd == 11) = false) (k3 : (kd != 3) = true) (k13 : (kd != 13) = true) (k6 : (kd != 6) = true) (hst : (R.core i).st = true)  :
    Calls Try.prog 19 #[.pointer (some ⟨q, 0, none⟩), .agg (evc ⟨kd, co, li, wo, va⟩)] w (DoTo18 z w q bl kb bp bc ck I R (none)) := by
  subst hci
  obtain ⟨n1, n2⟩ := one_new w (.cells (evc ⟨kd, (i : Int), li, wo, va⟩) 41)
  have P1 := Lib.hid (P.keep n2 (by simp))
  have hno : ∀ b, b ∈ [q, bl, kb, bp, bc] ++ I → w.heap.size ≠ b := fun b hb h => by have := P.old b hb; omega
  have HNO := Lib.hid hno
  have N2 := Lib.hid n2
  clear n2 P hno
  go_enter Try.func19, Try.ntmps19
  try dsimp only [List.append]
  go_upto_region 1 with fail
  generalize w.alloc (.cells (evc ⟨kd, (i : Int), li, wo, va⟩) 41) = w1 at *
  generalize hp : w.heap.size = p at *
  go_upto_region 13 with (go_at_call 27; refine (rthere_any P1.out ok ⟨kd, (i : Int), li, wo, va⟩ true hh.symm).mono ?_; rintro e w3 ⟨rfl, c9⟩; have n3 := c9.keep n1 List.not_mem_nil; have P3 := Lib.hid (P1.out.keep c9 (fun _ _ => List.not_mem_nil)); have C3 := Lib.hid (N2.out.trans c9); clear c9)
  have hq3 := P3.out.hq
  unfold dbc at hq3
  obtain ⟨x, hx, hcr, hd⟩ := P3.out.core hi
  have hil := (List.getElem?_eq_some_iff.1 hx).1
  have hb3 := P3.out.hc
  obtain ⟨_, _, c2, _, _, _⟩ := ci_cells hx
  rw [hd.st] at c2
  have u0 : (0 : Int) ≤ (i : Int) := by omega
  have u1 : (i : Int) < (z.m : Int) := by omega
  go_region
  have n5 : w3.drew.heap[p]? = some (.cells (evc ⟨kd, (i : Int), li, wo, va⟩) 41 (0, 0)) := by rw [heap_drew]; exact n3
  have cd : Chg [] w3 w3.drew := (Chg.refl [] w3).drew
  have P5 := Lib.hid (P3.out.keep cd (fun _ _ => List.not_mem_nil))
  have C5 := Lib.hid ((C3.out.trans cd).mono (l' := [q, bl, kb, bp, bc]) (by simp))
  have hb5 := P5.out.hc
  clear hq3 n3 cd P3 C3 hb3 hd hcr
  generalize w3.drew = w5 at *
  rw [hst] at c2
  go_wp2_with fail
  go_ret
  exact ⟨rfl, _, _, _, P5.out, C5.out, .inl rfl, fun y h => .inl h⟩
theorem rdo_rtrue (P : DbP z w q bl kb bp bc ck I xs R) (ok : R.Ok z N) (hN : N ≤ 1000) (kd co li wo va : Int) (i : Nat) (hi : i < z.m) (hci : co = i) (hh : hasR R ⟨kd, co, li, wo, va⟩ = true) (t5 : (kd == 5) = false) (t11 : (kd == 11) = false) (k3 : (kd != 3) = true) (k13 : (kd != 13) = true) (k6 : (kd != 6) = true) (hst : (R.core i).st = false) (hm : mayR R (R.core i) ⟨kd, co, li, wo, va⟩ = true) :
    Calls Try.prog 19 #[.pointer (some ⟨q, 0, none⟩), .agg (evc ⟨kd, co, li, wo, va⟩)] w (DoTo18 z w q bl kb bp bc ck I R (some (doneR R ⟨kd, co, li, wo, va⟩))) := by
  subst hci
  obtain ⟨n1, n2⟩ := one_new w (.cells (evc ⟨kd, (i : Int), li, wo, va⟩) 41)
  have P1 := Lib.hid (P.keep n2 (by simp))
  have hno : ∀ b, b ∈ [q, bl, kb, bp, bc] ++ I → w.heap.size ≠ b := fun b hb h => by have := P.old b hb; omega
  have HNO := Lib.hid hno
  have N2 := Lib.hid n2
  clear n2 P hno
  go_enter Try.func19, Try.ntmps19
  try dsimp only [List.append]
  go_upto_region 1 with fail
  generalize w.alloc (.cells (evc ⟨kd, (i : Int), li, wo, va⟩) 41) = w1 at *
  generalize hp : w.heap.size = p at *
  go_upto_region 13 with (go_at_call 27; refine (rthere_any P1.out ok ⟨kd, (i : Int), li, wo, va⟩ true hh.symm).mono ?_; rintro e w3 ⟨rfl, c9⟩; have n3 := c9.keep n1 List.not_mem_nil; have P3 := Lib.hid (P1.out.keep c9 (fun _ _ => List.not_mem_nil)); have C3 := Lib.hid (N2.out.trans c9); clear c9)
  have hq3 := P3.out.hq
  unfold dbc at hq3
  obtain ⟨x, hx, hcr, hd⟩ := P3.out.core hi
  have hil := (List.getElem?_eq_some_iff.1 hx).1
  have hb3 := P3.out.hc
  obtain ⟨_, _, c2, _, _, _⟩ := ci_cells hx
  rw [hd.st] at c2
  have u0 : (0 : Int) ≤ (i : Int) := by omega
  have u1 : (i : Int) < (z.m : Int) := by omega
  go_region
  have n5 : w3.drew.heap[p]? = some (.cells (evc ⟨kd, (i : Int), li, wo, va⟩) 41 (0, 0)) := by rw [heap_drew]; exact n3
  have cd : Chg [] w3 w3.drew := (Chg.refl [] w3).drew
  have P5 := Lib.hid (P3.out.keep cd (fun _ _ => List.not_mem_nil))
  have C5 := Lib.hid ((C3.out.trans cd).mono (l' := [q, bl, kb, bp, bc]) (by simp))
  have hb5 := P5.out.hc
  clear hq3 n3 cd P3 C3 hb3 hd hcr
  generalize w3.drew = w5 at *
  rw [hst] at c2
  go_wp2_with (first | (go_at_call 29; refine (may_any P5.out ok hN hh (by intro h; rw [h] at t5; simp at t5) (by intro h; rw [h] at t11; simp at t11) rfl hi true hm.symm).mono ?_; rintro e w6 ⟨rfl, c9⟩; have n6 := c9.keep n5 List.not_mem_nil; have P6 := Lib.hid (P5.out.keep c9 (fun _ _ => List.not_mem_nil)); have C6 := Lib.hid (C5.out.trans (c9.mono (by simp))); clear c9) | (go_at_call 30; refine (done_any P6.out ok hN hh (by intro h; rw [h] at t5; simp at t5) (by intro h; rw [h] at t11; simp at t11) rfl hi hm).mono ?_; rintro e w7 ⟨rfl, I7, xs7, P7', c7, HI7⟩; have P7 := Lib.hid P7'; have C7 := Lib.hid (C6.out.trans (c7.mono (by simp))); have HN7 := Lib.hid (show ∀ y, y ∈ I7 → y ∈ I ∨ w.heap.size ≤ y from fun y hy => by rcases HI7 y hy with h | h; exact .inl h; have := C6.out.size; exact .inr (by omega)); clear c7 HI7 P7'))
  go_ret
  exact ⟨rfl, bc, I7, xs7, P7.out, C7.out, .inl rfl, HN7.out⟩
theorem rdo_rfalse (P : DbP z w q bl kb bp bc ck I xs R) (ok : R.Ok z N) (hN : N ≤ 1000) (kd co li wo va : Int) (i : Nat) (hi : i < z.m) (hci : co = i) (hh : hasR R ⟨kd, co, li, wo, va⟩ = true) (t5 : (kd == 5) = false) (t11 : (kd == 11) = false) (k3 : (kd != 3) = true) (k13 : (kd != 13) = true) (k6 : (kd != 6) = true) (hst : (R.core i).st = false) (hm : mayR R (R.core i) ⟨kd, co, li, wo, va⟩ = false) :
    Calls Try.prog 19 #[.pointer (some ⟨q, 0, none⟩), .agg (evc ⟨kd, co, li, wo, va⟩)] w (DoTo18 z w q bl kb bp bc ck I R (none)) := by
  subst hci
  obtain ⟨n1, n2⟩ := one_new w (.cells (evc ⟨kd, (i : Int), li, wo, va⟩) 41)
  have P1 := Lib.hid (P.keep n2 (by simp))
  have hno : ∀ b, b ∈ [q, bl, kb, bp, bc] ++ I → w.heap.size ≠ b := fun b hb h => by have := P.old b hb; omega
  have HNO := Lib.hid hno
  have N2 := Lib.hid n2
  clear n2 P hno
  go_enter Try.func19, Try.ntmps19
  try dsimp only [List.append]
  go_upto_region 1 with fail
  generalize w.alloc (.cells (evc ⟨kd, (i : Int), li, wo, va⟩) 41) = w1 at *
  generalize hp : w.heap.size = p at *
  go_upto_region 13 with (go_at_call 27; refine (rthere_any P1.out ok ⟨kd, (i : Int), li, wo, va⟩ true hh.symm).mono ?_; rintro e w3 ⟨rfl, c9⟩; have n3 := c9.keep n1 List.not_mem_nil; have P3 := Lib.hid (P1.out.keep c9 (fun _ _ => List.not_mem_nil)); have C3 := Lib.hid (N2.out.trans c9); clear c9)
  have hq3 := P3.out.hq
  unfold dbc at hq3
  obtain ⟨x, hx, hcr, hd⟩ := P3.out.core hi
  have hil := (List.getElem?_eq_some_iff.1 hx).1
  have hb3 := P3.out.hc
  obtain ⟨_, _, c2, _, _, _⟩ := ci_cells hx
  rw [hd.st] at c2
  have u0 : (0 : Int) ≤ (i : Int) := by omega
  have u1 : (i : Int) < (z.m : Int) := by omega
  go_region
  have n5 : w3.drew.heap[p]? = some (.cells (evc ⟨kd, (i : Int), li, wo, va⟩) 41 (0, 0)) := by rw [heap_drew]; exact n3
  have cd : Chg [] w3 w3.drew := (Chg.refl [] w3).drew
  have P5 := Lib.hid (P3.out.keep cd (fun _ _ => List.not_mem_nil))
  have C5 := Lib.hid ((C3.out.trans cd).mono (l' := [q, bl, kb, bp, bc]) (by simp))
  have hb5 := P5.out.hc
  clear hq3 n3 cd P3 C3 hb3 hd hcr
  generalize w3.drew = w5 at *
  rw [hst] at c2
  go_wp2_with (first | (go_at_call 29; refine (may_any P5.out ok hN hh (by intro h; rw [h] at t5; simp at t5) (by intro h; rw [h] at t11; simp at t11) rfl hi false hm.symm).mono ?_; rintro e w6 ⟨rfl, c9⟩; have n6 := c9.keep n5 List.not_mem_nil; have P6 := Lib.hid (P5.out.keep c9 (fun _ _ => List.not_mem_nil)); have C6 := Lib.hid (C5.out.trans (c9.mono (by simp))); clear c9) | (go_at_call 30; refine (done_any P6.out ok hN hh (by intro h; rw [h] at t5; simp at t5) (by intro h; rw [h] at t11; simp at t11) rfl hi hm).mono ?_; rintro e w7 ⟨rfl, I7, xs7, P7', c7, HI7⟩; have P7 := Lib.hid P7'; have C7 := Lib.hid (C6.out.trans (c7.mono (by simp))); have HN7 := Lib.hid (show ∀ y, y ∈ I7 → y ∈ I ∨ w.heap.size ≤ y from fun y hy => by rcases HI7 y hy with h | h; exact .inl h; have := C6.out.size; exact .inr (by omega)); clear c7 HI7 P7'))
  go_ret
  exact ⟨rfl, _, _, _, P6.out, C6.out, .inl rfl, fun y h => .inl h⟩
theorem rdo_3true (P : DbP z w q bl kb bp bc ck I xs R) (ok : R.Ok z N) (hN : N ≤ 1000) (kd co li wo va : Int) (i : Nat) (hi : i < z.m) (hci : co = i) (hh : hasR R ⟨kd, co, li, wo, va⟩ = true) (t5 : (kd == 5) = false) (t11 : (kd == 11) = false) (k3 : (kd != 3) = false) (hm : mayR R (R.core i) ⟨kd, co, li, wo, va⟩ = true) :
    Calls Try.prog 19 #[.pointer (some ⟨q, 0, none⟩), .agg (evc ⟨kd, co, li, wo, va⟩)] w (DoTo18 z w q bl kb bp bc ck I R (some (doneR R ⟨kd, co, li, wo, va⟩))) := by
  subst hci
  obtain ⟨n1, n2⟩ := one_new w (.cells (evc ⟨kd, (i : Int), li, wo, va⟩) 41)
  have P1 := Lib.hid (P.keep n2 (by simp))
  have hno : ∀ b, b ∈ [q, bl, kb, bp, bc] ++ I → w.heap.size ≠ b := fun b hb h => by have := P.old b hb; omega
  have HNO := Lib.hid hno
  have N2 := Lib.hid n2
  clear n2 P hno
  go_enter Try.func19, Try.ntmps19
  try dsimp only [List.append]
  go_upto_region 1 with fail
  generalize w.alloc (.cells (evc ⟨kd, (i : Int), li, wo, va⟩) 41) = w1 at *
  generalize hp : w.heap.size = p at *
  go_upto_region 13 with (go_at_call 27; refine (rthere_any P1.out ok ⟨kd, (i : Int), li, wo, va⟩ true hh.symm).mono ?_; rintro e w3 ⟨rfl, c9⟩; have n3 := c9.keep n1 List.not_mem_nil; have P3 := Lib.hid (P1.out.keep c9 (fun _ _ => List.not_mem_nil)); have C3 := Lib.hid (N2.out.trans c9); clear c9)
  have hq3 := P3.out.hq
  unfold dbc at hq3
  obtain ⟨x, hx, hcr, hd⟩ := P3.out.core hi
  have hil := (List.getElem?_eq_some_iff.1 hx).1
  have hb3 := P3.out.hc
  obtain ⟨_, _, c2, _, _, _⟩ := ci_cells hx
  rw [hd.st] at c2
  have u0 : (0 : Int) ≤ (i : Int) := by omega
  have u1 : (i : Int) < (z.m : Int) := by omega
  go_region
  have n5 : w3.drew.heap[p]? = some (.cells (evc ⟨kd, (i : Int), li, wo, va⟩) 41 (0, 0)) := by rw [heap_drew]; exact n3
  have cd : Chg [] w3 w3.drew := (Chg.refl [] w3).drew
  have P5 := Lib.hid (P3.out.keep cd (fun _ _ => List.not_mem_nil))
  have C5 := Lib.hid ((C3.out.trans cd).mono (l' := [q, bl, kb, bp, bc]) (by simp))
  have hb5 := P5.out.hc
  clear hq3 n3 cd P3 C3 hb3 hd hcr
  generalize w3.drew = w5 at *
  go_wp2_with (first | (go_at_call 29; refine (may_any P5.out ok hN hh (by intro h; rw [h] at t5; simp at t5) (by intro h; rw [h] at t11; simp at t11) rfl hi true hm.symm).mono ?_; rintro e w6 ⟨rfl, c9⟩; have n6 := c9.keep n5 List.not_mem_nil; have P6 := Lib.hid (P5.out.keep c9 (fun _ _ => List.not_mem_nil)); have C6 := Lib.hid (C5.out.trans (c9.mono (by simp))); clear c9) | (go_at_call 30; refine (done_any P6.out ok hN hh (by intro h; rw [h] at t5; simp at t5) (by intro h; rw [h] at t11; simp at t11) rfl hi hm).mono ?_; rintro e w7 ⟨rfl, I7, xs7, P7', c7, HI7⟩; have P7 := Lib.hid P7'; have C7 := Lib.hid (C6.out.trans (c7.mono (by simp))); have HN7 := Lib.hid (show ∀ y, y ∈ I7 → y ∈ I ∨ w.heap.size ≤ y from fun y hy => by rcases HI7 y hy with h | h; exact .inl h; have := C6.out.size; exact .inr (by omega)); clear c7 HI7 P7'))
  go_ret
  exact ⟨rfl, bc, I7, xs7, P7.out, C7.out, .inl rfl, HN7.out⟩
theorem rdo_3false (P : DbP z w q bl kb bp bc ck I xs R) (ok : R.Ok z N) (hN : N ≤ 1000) (kd co li wo va : Int) (i : Nat) (hi : i < z.m) (hci : co = i) (hh : hasR R ⟨kd, co, li, wo, va⟩ = true) (t5 : (kd == 5) = false) (t11 : (kd == 11) = false) (k3 : (kd != 3) = false) (hm : mayR R (R.core i) ⟨kd, co, li, wo, va⟩ = false) :
    Calls Try.prog 19 #[.pointer (some ⟨q, 0, none⟩), .agg (evc ⟨kd, co, li, wo, va⟩)] w (DoTo18 z w q bl kb bp bc ck I R (none)) := by
  subst hci
  obtain ⟨n1, n2⟩ := one_new w (.cells (evc ⟨kd, (i : Int), li, wo, va⟩) 41)
  have P1 := Lib.hid (P.keep n2 (by simp))
  have hno : ∀ b, b ∈ [q, bl, kb, bp, bc] ++ I → w.heap.size ≠ b := fun b hb h => by have := P.old b hb; omega
  have HNO := Lib.hid hno
  have N2 := Lib.hid n2
  clear n2 P hno
  go_enter Try.func19, Try.ntmps19
  try dsimp only [List.append]
  go_upto_region 1 with fail
  generalize w.alloc (.cells (evc ⟨kd, (i : Int), li, wo, va⟩) 41) = w1 at *
  generalize hp : w.heap.size = p at *
  go_upto_region 13 with (go_at_call 27; refine (rthere_any P1.out ok ⟨kd, (i : Int), li, wo, va⟩ true hh.symm).mono ?_; rintro e w3 ⟨rfl, c9⟩; have n3 := c9.keep n1 List.not_mem_nil; have P3 := Lib.hid (P1.out.keep c9 (fun _ _ => List.not_mem_nil)); have C3 := Lib.hid (N2.out.trans c9); clear c9)
  have hq3 := P3.out.hq
  unfold dbc at hq3
  obtain ⟨x, hx, hcr, hd⟩ := P3.out.core hi
  have hil := (List.getElem?_eq_some_iff.1 hx).1
  have hb3 := P3.out.hc
  obtain ⟨_, _, c2, _, _, _⟩ := ci_cells hx
  rw [hd.st] at c2
  have u0 : (0 : Int) ≤ (i : Int) := by omega
  have u1 : (i : Int) < (z.m : Int) := by omega
  go_region
  have n5 : w3.drew.heap[p]? = some (.cells (evc ⟨kd, (i : Int), li, wo, va⟩) 41 (0, 0)) := by rw [heap_drew]; exact n3
  have cd : Chg [] w3 w3.drew := (Chg.refl [] w3).drew
  have P5 := Lib.hid (P3.out.keep cd (fun _ _ => List.not_mem_nil))
  have C5 := Lib.hid ((C3.out.trans cd).mono (l' := [q, bl, kb, bp, bc]) (by simp))
  have hb5 := P5.out.hc
  clear hq3 n3 cd P3 C3 hb3 hd hcr
  generalize w3.drew = w5 at *
  go_wp2_with (first | (go_at_call 29; refine (may_any P5.out ok hN hh (by intro h; rw [h] at t5; simp at t5) (by intro h; rw [h] at t11; simp at t11) rfl hi false hm.symm).mono ?_; rintro e w6 ⟨rfl, c9⟩; have n6 := c9.keep n5 List.not_mem_nil; have P6 := Lib.hid (P5.out.keep c9 (fun _ _ => List.not_mem_nil)); have C6 := Lib.hid (C5.out.trans (c9.mono (by simp))); clear c9) | (go_at_call 30; refine (done_any P6.out ok hN hh (by intro h; rw [h] at t5; simp at t5) (by intro h; rw [h] at t11; simp at t11) rfl hi hm).mono ?_; rintro e w7 ⟨rfl, I7, xs7, P7', c7, HI7⟩; have P7 := Lib.hid P7'; have C7 := Lib.hid (C6.out.trans (c7.mono (by simp))); have HN7 := Lib.hid (show ∀ y, y ∈ I7 → y ∈ I ∨ w.heap.size ≤ y from fun y hy => by rcases HI7 y hy with h | h; exact .inl h; have := C6.out.size; exact .inr (by omega)); clear c7 HI7 P7'))
  go_ret
  exact ⟨rfl, _, _, _, P6.out, C6.out, .inl rfl, fun y h => .inl h⟩
theorem rdo_13true (P : DbP z w q bl kb bp bc ck I xs R) (ok : R.Ok z N) (hN : N ≤ 1000) (kd co li wo va : Int) (i : Nat) (hi : i < z.m) (hci : co = i) (hh : hasR R ⟨kd, co, li, wo, va⟩ = true) (t5 : (kd == 5) = false) (t11 : (kd == 11) = false) (k3 : (kd != 3) = true) (k13 : (kd != 13) = false) (hm : mayR R (R.core i) ⟨kd, co, li, wo, va⟩ = true) :
    Calls Try.prog 19 #[.pointer (some ⟨q, 0, none⟩), .agg (evc ⟨kd, co, li, wo, va⟩)] w (DoTo18 z w q bl kb bp bc ck I R (some (doneR R ⟨kd, co, li, wo, va⟩))) := by
  subst hci
  obtain ⟨n1, n2⟩ := one_new w (.cells (evc ⟨kd, (i : Int), li, wo, va⟩) 41)
  have P1 := Lib.hid (P.keep n2 (by simp))
  have hno : ∀ b, b ∈ [q, bl, kb, bp, bc] ++ I → w.heap.size ≠ b := fun b hb h => by have := P.old b hb; omega
  have HNO := Lib.hid hno
  have N2 := Lib.hid n2
  clear n2 P hno
  go_enter Try.func19, Try.ntmps19
  try dsimp only [List.append]
  go_upto_region 1 with fail
  generalize w.alloc (.cells (evc ⟨kd, (i : Int), li, wo, va⟩) 41) = w1 at *
  generalize hp : w.heap.size = p at *
  go_upto_region 13 with (go_at_call 27; refine (rthere_any P1.out ok ⟨kd, (i : Int), li, wo, va⟩ true hh.symm).mono ?_; rintro e w3 ⟨rfl, c9⟩; have n3 := c9.keep n1 List.not_mem_nil; have P3 := Lib.hid (P1.out.keep c9 (fun _ _ => List.not_mem_nil)); have C3 := Lib.hid (N2.out.trans c9); clear c9)
  have hq3 := P3.out.hq
  unfold dbc at hq3
  obtain ⟨x, hx, hcr, hd⟩ := P3.out.core hi
  have hil := (List.getElem?_eq_some_iff.1 hx).1
  have hb3 := P3.out.hc
  obtain ⟨_, _, c2, _, _, _⟩ := ci_cells hx
  rw [hd.st] at c2
  have u0 : (0 : Int) ≤ (i : Int) := by omega
  have u1 : (i : Int) < (z.m : Int) := by omega
  go_region
  have n5 : w3.drew.heap[p]? = some (.cells (evc ⟨kd, (i : Int), li, wo, va⟩) 41 (0, 0)) := by rw [heap_drew]; exact n3
  have cd : Chg [] w3 w3.drew := (Chg.refl [] w3).drew
  have P5 := Lib.hid (P3.out.keep cd (fun _ _ => List.not_mem_nil))
  have C5 := Lib.hid ((C3.out.trans cd).mono (l' := [q, bl, kb, bp, bc]) (by simp))
  have hb5 := P5.out.hc
  clear hq3 n3 cd P3 C3 hb3 hd hcr
  generalize w3.drew = w5 at *
  go_wp2_with (first | (go_at_call 29; refine (may_any P5.out ok hN hh (by intro h; rw [h] at t5; simp at t5) (by intro h; rw [h] at t11; simp at t11) rfl hi true hm.symm).mono ?_; rintro e w6 ⟨rfl, c9⟩; have n6 := c9.keep n5 List.not_mem_nil; have P6 := Lib.hid (P5.out.keep c9 (fun _ _ => List.not_mem_nil)); have C6 := Lib.hid (C5.out.trans (c9.mono (by simp))); clear c9) | (go_at_call 30; refine (done_any P6.out ok hN hh (by intro h; rw [h] at t5; simp at t5) (by intro h; rw [h] at t11; simp at t11) rfl hi hm).mono ?_; rintro e w7 ⟨rfl, I7, xs7, P7', c7, HI7⟩; have P7 := Lib.hid P7'; have C7 := Lib.hid (C6.out.trans (c7.mono (by simp))); have HN7 := Lib.hid (show ∀ y, y ∈ I7 → y ∈ I ∨ w.heap.size ≤ y from fun y hy => by rcases HI7 y hy with h | h; exact .inl h; have := C6.out.size; exact .inr (by omega)); clear c7 HI7 P7'))
  go_ret
  exact ⟨rfl, bc, I7, xs7, P7.out, C7.out, .inl rfl, HN7.out⟩
theorem rdo_13false (P : DbP z w q bl kb bp bc ck I xs R) (ok : R.Ok z N) (hN : N ≤ 1000) (kd co li wo va : Int) (i : Nat) (hi : i < z.m) (hci : co = i) (hh : hasR R ⟨kd, co, li, wo, va⟩ = true) (t5 : (kd == 5) = false) (t11 : (kd == 11) = false) (k3 : (kd != 3) = true) (k13 : (kd != 13) = false) (hm : mayR R (R.core i) ⟨kd, co, li, wo, va⟩ = false) :
    Calls Try.prog 19 #[.pointer (some ⟨q, 0, none⟩), .agg (evc ⟨kd, co, li, wo, va⟩)] w (DoTo18 z w q bl kb bp bc ck I R (none)) := by
  subst hci
  obtain ⟨n1, n2⟩ := one_new w (.cells (evc ⟨kd, (i : Int), li, wo, va⟩) 41)
  have P1 := Lib.hid (P.keep n2 (by simp))
  have hno : ∀ b, b ∈ [q, bl, kb, bp, bc] ++ I → w.heap.size ≠ b := fun b hb h => by have := P.old b hb; omega
  have HNO := Lib.hid hno
  have N2 := Lib.hid n2
  clear n2 P hno
  go_enter Try.func19, Try.ntmps19
  try dsimp only [List.append]
  go_upto_region 1 with fail
  generalize w.alloc (.cells (evc ⟨kd, (i : Int), li, wo, va⟩) 41) = w1 at *
  generalize hp : w.heap.size = p at *
  go_upto_region 13 with (go_at_call 27; refine (rthere_any P1.out ok ⟨kd, (i : Int), li, wo, va⟩ true hh.symm).mono ?_; rintro e w3 ⟨rfl, c9⟩; have n3 := c9.keep n1 List.not_mem_nil; have P3 := Lib.hid (P1.out.keep c9 (fun _ _ => List.not_mem_nil)); have C3 := Lib.hid (N2.out.trans c9); clear c9)
  have hq3 := P3.out.hq
  unfold dbc at hq3
  obtain ⟨x, hx, hcr, hd⟩ := P3.out.core hi
  have hil := (List.getElem?_eq_some_iff.1 hx).1
  have hb3 := P3.out.hc
  obtain ⟨_, _, c2, _, _, _⟩ := ci_cells hx
  rw [hd.st] at c2
  have u0 : (0 : Int) ≤ (i : Int) := by omega
  have u1 : (i : Int) < (z.m : Int) := by omega
  go_region
  have n5 : w3.drew.heap[p]? = some (.cells (evc ⟨kd, (i : Int), li, wo, va⟩) 41 (0, 0)) := by rw [heap_drew]; exact n3
  have cd : Chg [] w3 w3.drew := (Chg.refl [] w3).drew
  have P5 := Lib.hid (P3.out.keep cd (fun _ _ => List.not_mem_nil))
  have C5 := Lib.hid ((C3.out.trans cd).mono (l' := [q, bl, kb, bp, bc]) (by simp))
  have hb5 := P5.out.hc
  clear hq3 n3 cd P3 C3 hb3 hd hcr
  generalize w3.drew = w5 at *
  go_wp2_with (first | (go_at_call 29; refine (may_any P5.out ok hN hh (by intro h; rw [h] at t5; simp at t5) (by intro h; rw [h] at t11; simp at t11) rfl hi false hm.symm).mono ?_; rintro e w6 ⟨rfl, c9⟩; have n6 := c9.keep n5 List.not_mem_nil; have P6 := Lib.hid (P5.out.keep c9 (fun _ _ => List.not_mem_nil)); have C6 := Lib.hid (C5.out.trans (c9.mono (by simp))); clear c9) | (go_at_call 30; refine (done_any P6.out ok hN hh (by intro h; rw [h] at t5; simp at t5) (by intro h; rw [h] at t11; simp at t11) rfl hi hm).mono ?_; rintro e w7 ⟨rfl, I7, xs7, P7', c7, HI7⟩; have P7 := Lib.hid P7'; have C7 := Lib.hid (C6.out.trans (c7.mono (by simp))); have HN7 := Lib.hid (show ∀ y, y ∈ I7 → y ∈ I ∨ w.heap.size ≤ y from fun y hy => by rcases HI7 y hy with h | h; exact .inl h; have := C6.out.size; exact .inr (by omega)); clear c7 HI7 P7'))
  go_ret
  exact ⟨rfl, _, _, _, P6.out, C6.out, .inl rfl, fun y h => .inl h⟩
theorem rdo_6true (P : DbP z w q bl kb bp bc ck I xs R) (ok : R.Ok z N) (hN : N ≤ 1000) (kd co li wo va : Int) (i : Nat) (hi : i < z.m) (hci : co = i) (hh : hasR R ⟨kd, co, li, wo, va⟩ = true) (t5 : (kd == 5) = false) (t11 : (kd == 11) = false) (k3 : (kd != 3) = true) (k13 : (kd != 13) = true) (k6 : (kd != 6) = false) (hm : mayR R (R.core i) ⟨kd, co, li, wo, va⟩ = true) :
    Calls Try.prog 19 #[.pointer (some ⟨q, 0, none⟩), .agg (evc ⟨kd, co, li, wo, va⟩)] w (DoTo18 z w q bl kb bp bc ck I R (some (doneR R ⟨kd, co, li, wo, va⟩))) := by
  subst hci
  obtain ⟨n1, n2⟩ := one_new w (.cells (evc ⟨kd, (i : Int), li, wo, va⟩) 41)
  have P1 := Lib.hid (P.keep n2 (by simp))
  have hno : ∀ b, b ∈ [q, bl, kb, bp, bc] ++ I → w.heap.size ≠ b := fun b hb h => by have := P.old b hb; omega
  have HNO := Lib.hid hno
  have N2 := Lib.hid n2
  clear n2 P hno
  go_enter Try.func19, Try.ntmps19
  try dsimp only [List.append]
  go_upto_region 1 with fail
  generalize w.alloc (.cells (evc ⟨kd, (i : Int), li, wo, va⟩) 41) = w1 at *
  generalize hp : w.heap.size = p at *
  go_upto_region 13 with (go_at_call 27; refine (rthere_any P1.out ok ⟨kd, (i : Int), li, wo, va⟩ true hh.symm).mono ?_; rintro e w3 ⟨rfl, c9⟩; have n3 := c9.keep n1 List.not_mem_nil; have P3 := Lib.hid (P1.out.keep c9 (fun _ _ => List.not_mem_nil)); have C3 := Lib.hid (N2.out.trans c9); clear c9)
  have hq3 := P3.out.hq
  unfold dbc at hq3
  obtain ⟨x, hx, hcr, hd⟩ := P3.out.core hi
  have hil := (List.getElem?_eq_some_iff.1 hx).1
  have hb3 := P3.out.hc
  obtain ⟨_, _, c2, _, _, _⟩ := ci_cells hx
  rw [hd.st] at c2
  have u0 : (0 : Int) ≤ (i : Int) := by omega
  have u1 : (i : Int) < (z.m : Int) := by omega
  go_region
  have n5 : w3.drew.heap[p]? = some (.cells (evc ⟨kd, (i : Int), li, wo, va⟩) 41 (0, 0)) := by rw [heap_drew]; exact n3
  have cd : Chg [] w3 w3.drew := (Chg.refl [] w3).drew
  have P5 := Lib.hid (P3.out.keep cd (fun _ _ => List.not_mem_nil))
  have C5 := Lib.hid ((C3.out.trans cd).mono (l' := [q, bl, kb, bp, bc]) (by simp))
  have hb5 := P5.out.hc
  clear hq3 n3 cd P3 C3 hb3 hd hcr
  generalize w3.drew = w5 at *
  go_wp2_with (first | (go_at_call 29; refine (may_any P5.out ok hN hh (by intro h; rw [h] at t5; simp at t5) (by intro h; rw [h] at t11; simp at t11) rfl hi true hm.symm).mono ?_; rintro e w6 ⟨rfl, c9⟩; have n6 := c9.keep n5 List.not_mem_nil; have P6 := Lib.hid (P5.out.keep c9 (fun _ _ => List.not_mem_nil)); have C6 := Lib.hid (C5.out.trans (c9.mono (by simp))); clear c9) | (go_at_call 30; refine (done_any P6.out ok hN hh (by intro h; rw [h] at t5; simp at t5) (by intro h; rw [h] at t11; simp at t11) rfl hi hm).mono ?_; rintro e w7 ⟨rfl, I7, xs7, P7', c7, HI7⟩; have P7 := Lib.hid P7'; have C7 := Lib.hid (C6.out.trans (c7.mono (by simp))); have HN7 := Lib.hid (show ∀ y, y ∈ I7 → y ∈ I ∨ w.heap.size ≤ y from fun y hy => by rcases HI7 y hy with h | h; exact .inl h; have := C6.out.size; exact .inr (by omega)); clear c7 HI7 P7'))
  go_ret
  exact ⟨rfl, bc, I7, xs7, P7.out, C7.out, .inl rfl, HN7.out⟩
theorem rdo_6false (P : DbP z w q bl kb bp bc ck I xs R) (ok : R.Ok z N) (hN : N ≤ 1000) (kd co li wo va : Int) (i : Nat) (hi : i < z.m) (hci : co = i) (hh : hasR R ⟨kd, co, li, wo, va⟩ = true) (t5 : (kd == 5) = false) (t11 : (kd == 11) = false) (k3 : (kd != 3) = true) (k13 : (kd != 13) = true) (k6 : (kd != 6) = false) (hm : mayR R (R.core i) ⟨kd, co, li, wo, va⟩ = false) :
    Calls Try.prog 19 #[.pointer (some ⟨q, 0, none⟩), .agg (evc ⟨kd, co, li, wo, va⟩)] w (DoTo18 z w q bl kb bp bc ck I R (none)) := by
  subst hci
  obtain ⟨n1, n2⟩ := one_new w (.cells (evc ⟨kd, (i : Int), li, wo, va⟩) 41)
  have P1 := Lib.hid (P.keep n2 (by simp))
  have hno : ∀ b, b ∈ [q, bl, kb, bp, bc] ++ I → w.heap.size ≠ b := fun b hb h => by have := P.old b hb; omega
  have HNO := Lib.hid hno
  have N2 := Lib.hid n2
  clear n2 P hno
  go_enter Try.func19, Try.ntmps19
  try dsimp only [List.append]
  go_upto_region 1 with fail
  generalize w.alloc (.cells (evc ⟨kd, (i : Int), li, wo, va⟩) 41) = w1 at *
  generalize hp : w.heap.size = p at *
  go_upto_region 13 with (go_at_call 27; refine (rthere_any P1.out ok ⟨kd, (i : Int), li, wo, va⟩ true hh.symm).mono ?_; rintro e w3 ⟨rfl, c9⟩; have n3 := c9.keep n1 List.not_mem_nil; have P3 := Lib.hid (P1.out.keep c9 (fun _ _ => List.not_mem_nil)); have C3 := Lib.hid (N2.out.trans c9); clear c9)
  have hq3 := P3.out.hq
  unfold dbc at hq3
  obtain ⟨x, hx, hcr, hd⟩ := P3.out.core hi
  have hil := (List.getElem?_eq_some_iff.1 hx).1
  have hb3 := P3.out.hc
  obtain ⟨_, _, c2, _, _, _⟩ := ci_cells hx
  rw [hd.st] at c2
  have u0 : (0 : Int) ≤ (i : Int) := by omega
  have u1 : (i : Int) < (z.m : Int) := by omega
  go_region
  have n5 : w3.drew.heap[p]? = some (.cells (evc ⟨kd, (i : Int), li, wo, va⟩) 41 (0, 0)) := by rw [heap_drew]; exact n3
  have cd : Chg [] w3 w3.drew := (Chg.refl [] w3).drew
  have P5 := Lib.hid (P3.out.keep cd (fun _ _ => List.not_mem_nil))
  have C5 := Lib.hid ((C3.out.trans cd).mono (l' := [q, bl, kb, bp, bc]) (by simp))
  have hb5 := P5.out.hc
  clear hq3 n3 cd P3 C3 hb3 hd hcr
  generalize w3.drew = w5 at *
  go_wp2_with (first | (go_at_call 29; refine (may_any P5.out ok hN hh (by intro h; rw [h] at t5; simp at t5) (by intro h; rw [h] at t11; simp at t11) rfl hi false hm.symm).mono ?_; rintro e w6 ⟨rfl, c9⟩; have n6 := c9.keep n5 List.not_mem_nil; have P6 := Lib.hid (P5.out.keep c9 (fun _ _ => List.not_mem_nil)); have C6 := Lib.hid (C5.out.trans (c9.mono (by simp))); clear c9) | (go_at_call 30; refine (done_any P6.out ok hN hh (by intro h; rw [h] at t5; simp at t5) (by intro h; rw [h] at t11; simp at t11) rfl hi hm).mono ?_; rintro e w7 ⟨rfl, I7, xs7, P7', c7, HI7⟩; have P7 := Lib.hid P7'; have C7 := Lib.hid (C6.out.trans (c7.mono (by simp))); have HN7 := Lib.hid (show ∀ y, y ∈ I7 → y ∈ I ∨ w.heap.size ≤ y from fun y hy => by rcases HI7 y hy with h | h; exact .inl h; have := C6.out.size; exact .inr (by omega)); clear c7 HI7 P7'))
  go_ret
  exact ⟨rfl, _, _, _, P6.out, C6.out, .inl rfl, fun y h => .inl h⟩
end
end Go.Proofs.Ytnocekhgabgffaa
end
