/- What the statements of the layer wake: walked. No condition. -/
import Derived.Test.YtkaabiiedfkaaaaDoorDirr
import Derived.Test.YtkaabiiedfkaaaaDoorDirf
import Derived.Test.YtkaabiiedfkaaaaDoorOpen
import Derived.BigQuiet
namespace Go.Proofs.YtkaabiiedfkaaaaDoor
open Go.RowKit
set_option linter.unusedVariables false
set_option maxHeartbeats 1000000
attribute [local go_sem ↓] append_appS copy_copS clear_clrS make_mkS slice_slS cell_row frozen_row loadLine storeLine loadMsg storeMsg heap_drew heap_drewN heap_alloc heap_past heap_setCell heap_putRow vs_get msc_kd msc_li msc_di msc_ke
attribute [local go_sem] rowCell_some rowFrozen_some rowHas_some rowIn_some rowPart_full rowPart_lit rowPut_full rowPut_lit rowSet_some size_putRow vs_size vs_one wideLine wideMsg run_loadS run_storeS run_appS run_copS run_clrS run_mkS run_slS loadW_at storeW_at fit_all fit_le one_int one_bool one_pointer one_slice allOne_list putRow_new ne_size1 ne_size2 ne_size3 ne_size4 zero8_length line_eq lit8 msc_size msc_one msc_part msc_in fold_msc
attribute [local simp ↓] heap_drew heap_drewN heap_alloc heap_past heap_setCell heap_putRow
attribute [local simp] rowCell_some rowFrozen_some rowHas_some rowIn_some rowPart_full rowPart_lit rowPut_full rowPut_lit rowSet_some size_putRow vs_size fit_all putRow_new ne_size1 ne_size2 ne_size3 ne_size4 zero8_length msc_size
attribute [local go_sem ↓] ec_he ec_di ec_ow ec_sh ec_bu ec_by ec_wa sc_to
attribute [local go_sem] mi_and mi_or mi_not mi_beq0 mi_bne0 ec_size ec_one ec_part ec_in ec_has ec_setDi ec_setOw ec_setSh ec_setBu ec_setBy ec_setWa ec_setSh0 ec_setWa0 ec_putM sc_size sc_one sc_part sc_in
attribute [local simp] ec_size sc_size ec_setDi ec_setOw ec_setSh ec_setBu ec_setBy ec_setWa ec_setSh0 ec_setWa0 ec_putM
attribute [local go_sem ↓] loadEn storeEn loadSd storeSd en_z0
attribute [local go_sem] wideEn wideSd fold_sc size11 putRow_newB putRow_newC ms5_lit
attribute [local simp] en_z0 putRow_newB putRow_newC fit_le ec_has
attribute [local go_sem ↓] loadEnR storeEnR loadSdR storeSdR
attribute [local go_sem] wideEnR wideSdR
attribute [local go_sem] ec_setHe ec_foldL


/-- What of a first element is told is read. -/
theorem Sl.sd {w : World} {A : Option Addr} {n : Nat} {xs : List Sd} (h : Sl w 13 A n (cat Sd.enc xs)) {i : Nat} {s : Sd} (hs : xs[i]? = some s) : ∃ b o cs t f, A = some ⟨b, o, none⟩ ∧ w.heap[b]? = some (.cells cs t f) ∧ cs[o + i * 13]? = some (.int .i64 s.to) ∧ cs[o + i * 13 + 1]? = some (.int .i64 s.m.kd) ∧ cs[o + i * 13 + 2]? = some (.int .i64 s.m.li) ∧
    (∀ d m, d + m ≤ 13 → rowIn (some (.cells cs t f)) (o + i * 13 + d) m = true ∧ rowPart (some (.cells cs t f)) (o + i * 13 + d) m = (((Sd.enc s).drop d).take m).toArray) := by
  have hl : xs.length = n := by
    have h1 := h.1
    rw [cat_length Sd.len] at h1
    omega
  have hi : i < n := by rw [← hl]; exact (List.getElem?_eq_some_iff.1 hs).1
  obtain ⟨b, o, rfl⟩ := h.addr (by omega)
  obtain ⟨cs, t, f, hb, hc, hp⟩ := h.elem (by omega) hi (cat_part Sd.len hs)
  refine ⟨b, o, cs, t, f, rfl, hb, ?_, ?_, ?_, hp⟩
  · have := hc 0 (by omega); rw [Nat.add_zero] at this; rw [this]; rfl
  · rw [hc 1 (by omega)]; rfl
  · rw [hc 2 (by omega)]; rfl
def e0 : En := enE.setHe true
def f0 : En := ⟨true, false, z8, 2, 0#8, 0, 0, 0#8, rfl⟩
def g0 : En := ⟨true, false, z8, 2, 0#8, 2, 1, 4#8, rfl⟩
def h0 : En := ⟨true, false, z8, 1, 0#8, 0, 0, 0#8, rfl⟩
theorem dwk1 : askE e0 2 (ms4 1 5 false false) = ((f0, [⟨2, ms5 9 5 z8 rfl⟩]), 0) := by rfl
theorem dwk2 : askE f0 1 (ms4 2 5 false false) = ((g0, [⟨2, ms4 12 5 false false⟩]), 0) := by rfl
theorem dwk3 : ansE g0 2 (ms4 6 5 false false) = ((h0, [⟨1, ms5 10 5 z8 rfl⟩]), 0) := by rfl
theorem dwk4 : goodE h0 = true := by rfl
set_option maxHeartbeats 4000000 in
theorem dwakes (w : World) (ht : Tab w) : Calls Tryd.prog 20 #[] w fun e w' => e = .returned (.bool true) ∧ Chg [] w w' := by
  have HT := Lib.hid ht
  have C0 := Lib.hid (Chg.refl [] w)
  clear ht
  go_enter Tryd.func20, Tryd.ntmps20
  try dsimp only [List.append]
  go_wp2_with fail
  refine (dempty_any w).mono ?_
  rintro e w1 ⟨rfl, c1⟩
  have C1 := Lib.hid (C0.out.trans c1)
  clear c1 C0 
  go_wp2_with fail
  rw [ms4_lit 1 5 false false, show enE.setHe true = e0 from rfl]
  have cb := (Chg.refl [] w1).alloc (.cells (ec (e0)) 26 (0, 0))
  have rE : (w1.alloc (.cells (ec (e0)) 26 (0, 0))).heap[w1.heap.size]? = some (.cells (ec (e0)) 26 (0, 0)) := by simp
  have C2 := Lib.hid (C1.out.trans cb)
  clear cb C1 
  generalize w1.heap.size = pE at rE ⊢
  generalize w1.alloc (.cells (ec (e0)) 26 (0, 0)) = w2 at rE C2 ⊢
  have oE := old rE
  have hc := dask_any e0 2 (ms4 1 5 false false) w2 (HT.out.keep C2.out (by simp))
  rw [dwk1] at hc
  refine hc.mono ?_
  clear hc
  rintro e w3 ⟨A1, n1, rfl, hs, _, c3⟩
  have S1 := Lib.hid hs
  clear hs
  replace rE := c3.keep rE (by simp)
  have C3 := Lib.hid (C2.out.trans c3)
  clear c3 C2 oE
  have oE := old rE
  go_wp2_with fail
  rw [ms4_lit 2 5 false false]
  have cb := (Chg.refl [] w3).alloc (.cells (ec (f0)) 26 (0, 0))
  have rF : (w3.alloc (.cells (ec (f0)) 26 (0, 0))).heap[w3.heap.size]? = some (.cells (ec (f0)) 26 (0, 0)) := by simp
  replace rE := cb.keep rE (by simp)
  replace S1 := Lib.hid (S1.out.chg cb (by simp))
  have C4 := Lib.hid (C3.out.trans cb)
  clear cb C3 oE
  generalize w3.heap.size = pF at rF ⊢
  generalize w3.alloc (.cells (ec (f0)) 26 (0, 0)) = w4 at rF C4 rE S1 ⊢
  have oE := old rE
  have oF := old rF
  have hc := dask_any f0 1 (ms4 2 5 false false) w4 (HT.out.keep C4.out (by simp))
  rw [dwk2] at hc
  refine hc.mono ?_
  clear hc
  rintro e w5 ⟨A2, n2, rfl, hs, _, c5⟩
  replace rE := c5.keep rE (by simp)
  replace rF := c5.keep rF (by simp)
  replace S1 := Lib.hid (S1.out.chg c5 (by simp))
  have C5 := Lib.hid (C4.out.trans c5)
  clear c5 C4 oE oF
  have oE := old rE
  have oF := old rF
  have S2 := Lib.hid hs
  clear hs
  go_wp2_with fail
  rw [ms4_lit 6 5 false false]
  have cb := (Chg.refl [] w5).alloc (.cells (ec (g0)) 26 (0, 0))
  have rG : (w5.alloc (.cells (ec (g0)) 26 (0, 0))).heap[w5.heap.size]? = some (.cells (ec (g0)) 26 (0, 0)) := by simp
  replace rE := cb.keep rE (by simp)
  replace rF := cb.keep rF (by simp)
  replace S1 := Lib.hid (S1.out.chg cb (by simp))
  replace S2 := Lib.hid (S2.out.chg cb (by simp))
  have C6 := Lib.hid (C5.out.trans cb)
  clear cb C5 oE oF
  generalize w5.heap.size = pG at rG ⊢
  generalize w5.alloc (.cells (ec (g0)) 26 (0, 0)) = w6 at rG C6 rE rF S1 S2 ⊢
  have oE := old rE
  have oF := old rF
  have oG := old rG
  have hc := danswer_any g0 2 (ms4 6 5 false false) w6 (HT.out.keep C6.out (by simp))
  rw [dwk3] at hc
  refine hc.mono ?_
  clear hc
  rintro e w7 ⟨A3, n3, rfl, hs, _, c7⟩
  replace rE := c7.keep rE (by simp)
  replace rF := c7.keep rF (by simp)
  replace rG := c7.keep rG (by simp)
  replace S1 := Lib.hid (S1.out.chg c7 (by simp))
  replace S2 := Lib.hid (S2.out.chg c7 (by simp))
  have C7 := Lib.hid (C6.out.trans c7)
  clear c7 C6 oE oF oG
  have oE := old rE
  have oF := old rF
  have oG := old rG
  have S3 := Lib.hid hs
  clear hs
  have cb := (Chg.refl [] w7).alloc (.cells (ec (h0)) 26 (0, 0))
  obtain ⟨b1, o1, cs1, t1, q1, rfl, k1, i10, i11, i12, _⟩ := (S1.out.chg cb (by simp)).sd (i := 0) rfl
  obtain ⟨b2, o2, cs2, t2, q2, rfl, k2, i20, i21, i22, _⟩ := (S2.out.chg cb (by simp)).sd (i := 0) rfl
  obtain ⟨b3, o3, cs3, t3, q3, rfl, k3, i30, i31, i32, _⟩ := (S3.out.chg cb (by simp)).sd (i := 0) rfl
  simp only [Nat.zero_mul, Nat.add_zero] at i10 i11 i12 i20 i21 i22 i30 i31 i32
  have u1 := (S1.out.sd (i := 0) rfl)
  clear u1
  have j1 : w7.heap[b1]? = some (.cells cs1 t1 q1) := by
    obtain ⟨b, o, cs, t, q, he, k, _⟩ := S1.out.sd (i := 0) rfl
    injection he with he; injection he with he _
    subst he
    have := cb.keep k (by simp)
    rw [k1] at this
    rw [k, this]
  have j2 : w7.heap[b2]? = some (.cells cs2 t2 q2) := by
    obtain ⟨b, o, cs, t, q, he, k, _⟩ := S2.out.sd (i := 0) rfl
    injection he with he; injection he with he _
    subst he
    have := cb.keep k (by simp)
    rw [k2] at this
    rw [k, this]
  have j3 : w7.heap[b3]? = some (.cells cs3 t3 q3) := by
    obtain ⟨b, o, cs, t, q, he, k, _⟩ := S3.out.sd (i := 0) rfl
    injection he with he; injection he with he _
    subst he
    have := cb.keep k (by simp)
    rw [k3] at this
    rw [k, this]
  clear k1 k2 k3 cb
  have v1 : f0.ow = 2 := rfl
  have v2 : g0.bu = 2 := rfl
  have v3 : h0.ow = 1 := rfl
  go_wp2_with (go_at_call 12; refine (dgood_at h0 true dwk4 _).mono ?_; rintro e w9 ⟨rfl, c9⟩)
  go_ret
  exact ⟨rfl, (C7.out.alloc _).trans c9⟩
end Go.Proofs.YtkaabiiedfkaaaaDoor
