/- What every statement of layer 18 wakes: walked. No condition. -/
import Derived.Test.YtnocekhgabgffaaOrc
namespace Go.Proofs.Ytnocekhgabgffaa
open Go.RowKit
set_option linter.unusedVariables false
set_option maxHeartbeats 1000000

set_option maxRecDepth 100000
attribute [local go_sem ↓] append_appS copy_copS clear_clrS make_mkS slice_slS lookup_lookS mput_mputS del_mdelS cell_row frozen_row heap_drew heap_drewN heap_alloc heap_past heap_setCell heap_putRow heap_setB loadEv storeEv loadBe storeBe loadSp storeSp loadNw storeNw loadLine storeLine evc_kd evc_co evc_li evc_wo evc_va bec_fl bec_li bec_wo bec_va nwC_0 nwC_1 spC_0 spC_1
attribute [local go_sem] rowCell_some rowFrozen_some rowHas_some rowIn_some rowPart_full rowPart_lit rowPut_full rowPut_lit rowSet_some size_putRow size_setB run_loadS run_storeS run_appS run_copS run_clrS run_mkS run_slS run_lookS run_mputS run_mdelS loadW_at storeW_at fit_all fit_le one_int one_bool one_pointer one_slice allOne_list putRow_new ne_size1 ne_size2 ne_size3 ne_size4 wideEv wideBe wideSp wideNw wideLine evc_size evc_one evc_ne evc_lit evc_z fold_evc bec_size bec_one bec_lit bec_ne bec_at bec_in spC_size spC_one nwC_size nwC_one nwC_ne nwC_set0 nwC_set1 nwC_lit bec_set0 bec_set1 bec_set2 bec_set3 spC_set0 spC_set1 spC_lit fold_spC spC_ne fold_nwC fold_bec fold_at vs_size vs_one ic_size ic_get
attribute [local simp ↓] heap_drew heap_drewN heap_alloc heap_past heap_setCell heap_putRow heap_setB
attribute [local simp] rowCell_some rowFrozen_some rowHas_some rowIn_some rowPart_full rowPart_lit rowPut_full rowPut_lit rowSet_some size_putRow size_setB fit_all putRow_new ne_size1 ne_size2 ne_size3 ne_size4 evc_size bec_size spC_size nwC_size vs_size fit_le
attribute [local go_sem ↓] loadCf storeCf
attribute [local go_sem] wideCf
theorem eltEv18 : Elt Try.prog 25 41 5 40 (.agg (evc evZ)) Ev.enc where
  slice := Try.underlying25
  info := by kernel_rfl
  zero := evc_size evZ
  zone := by intro v hv; exact Ev.one evZ v (by simpa [Value.cells, evc] using hv)
  pos := by omega
  len := Ev.len
  one := Ev.one
theorem slE_to (A : Option Addr) (n cap k : Nat) (h1 : k ≤ n) (h2 : n ≤ cap) (w : World) : slR Try.prog 25 (.slice A n cap) none (some (.int .i64 k)) none w = .ok (.slice A k cap) w := by
  obtain ⟨i0, hi0⟩ : ∃ i, Try.prog.info? 41 = some i := Option.isSome_iff_exists.1 (by kernel_rfl)
  unfold slR
  have h3 : (0 : Int) ≤ (k : Int) := by omega
  have h4 : k ≤ cap := by omega
  cases A with
  | none => simp [Instr.slice, Instr.sliceBounds, Instr.sliceBound, asIntOf, run_underlying Try.underlying25, sizeOf, typeInfo, hi0, h3, h4]
  | some a =>
    have h6 : a.add 0 = a := by simp [Addr.add]
    simp [Instr.slice, Instr.sliceBounds, Instr.sliceBound, asIntOf, run_underlying Try.underlying25, sizeOf, typeInfo, hi0, h3, h4, h6]
theorem wp_value18 {P : Program} {o : Oper} {a : Act} {w w' : World} {K : Act → World → Prop} {Q : Exit → Act → World → Prop} {v : Value} (h : (execOp a.eval o).run P w = .ok (.value v) w') (hk : K (a.put o.dst v) w') : o.wp P a w K Q := by
  unfold Oper.wp
  rw [h]
  exact hk
theorem Sl.takeE {w : World} {A : Option Addr} {n k : Nat} {xs : List Ev} (h : Sl w 5 A n (cat Ev.enc xs)) (hl : xs.length = n) (hk : k ≤ n) : Sl w 5 A k (cat Ev.enc (xs.take k)) := by
  refine ⟨by rw [cat_length Ev.len, List.length_take]; omega, ?_⟩
  rcases h.2 with h2 | ⟨b, o, c, t, f, h1, h2, h3⟩
  · exact .inl (by omega)
  · refine .inr ⟨b, o, c, t, f, h1, h2, ?_⟩
    rw [← cat_take Ev.len, ← h3, List.take_take, Nat.min_eq_left (by omega)]
/-! ### What every statement of layer 18 wakes -/
def l18 : List Ev := [⟨12, 0, 3, 1, 5⟩, ⟨3, 0, 3, 1, 5⟩, ⟨1, 0, 3, 1, 6⟩]
theorem l18_at : (trialB (bs0 6 2 1) l18).1 = 2 := by rfl
theorem l18_all : (trialB (bs0 6 2 1) (l18.take 2)).1 = 2 := by rfl
theorem l18_ls (r : List Value) : (bk (trialB (bs0 6 2 1) (l18.take 2)).2.ls r)[25]? = some (.int .u64 5) := rfl
theorem l18_ks (r : List Value) : (bk (trialB (bs0 6 2 1) (l18.take 2)).2.ks r)[25]? = some (.int .u64 0) := rfl
theorem b0_ok : (bs0 6 2 1).Ok 6 2 0 := bs0_ok (by omega) (by omega) (by omega) (by omega)
theorem wakes18_any (W : World) : Calls Try.prog 6 #[] W fun e w' => e = .returned (.bool true) ∧ Chg [] W w' := by
  go_enter Try.func6, Try.ntmps6
  try dsimp only [List.append]
  go_upto_region 1 with fail
  go_step
  repeat (first | go_values | go_skip | go_guarded | go_step)
  go_at_call 14
  refine (at_any _ _ _).mono ?_
  rintro e u0 ⟨rfl, c⟩
  have K0 := Lib.hid c
  clear c
  dsimp only
  go_at_K
  repeat (first | go_values | go_skip | go_guarded | go_step)
  go_at_call 14
  refine (at_any _ _ _).mono ?_
  rintro e u1 ⟨rfl, c⟩
  have K1 := Lib.hid (K0.out.trans c)
  clear c
  dsimp only
  go_at_K
  repeat (first | go_values | go_skip | go_guarded | go_step)
  go_at_call 14
  refine (at_any _ _ _).mono ?_
  rintro e u2 ⟨rfl, c⟩
  have K2 := Lib.hid (K1.out.trans c)
  clear c
  dsimp only
  go_at_K
  go_step
  go_step
  refine wp_value18 (v := .slice (some ⟨u2.heap.size, 0, none⟩) 3 3) (w' := u2.alloc (.cells (cat Ev.enc l18).toArray 41)) (by kernel_rfl) ?_
  have hb1 : (u2.alloc (.cells (cat Ev.enc l18).toArray 41)).heap[u2.heap.size]? = some (.cells (cat Ev.enc l18).toArray 41 (0, 0)) := (MapKept.heap_alloc u2 _).1
  have HS := Lib.hid (show Sl (u2.alloc (.cells (cat Ev.enc l18).toArray 41)) 5 (some ⟨u2.heap.size, 0, none⟩) 3 (cat Ev.enc l18) from ⟨rfl, .inr ⟨u2.heap.size, 0, _, _, (0, 0), rfl, hb1, rfl⟩⟩)
  have C1 := Lib.hid (K2.out.alloc (.cells (cat Ev.enc l18).toArray 41))
  clear hb1 K2
  generalize u2.alloc (.cells (cat Ev.enc l18).toArray 41) = w1 at C1 HS ⊢
  generalize u2.heap.size = b1 at HS ⊢
  dsimp only
  go_at_K
  go_upto_region 3 with (first | (go_at_call 15; refine (plain_any _).mono ?_; rintro e w2 ⟨rfl, c⟩; have C2 := Lib.hid (C1.out.trans c); have HS2 := Lib.hid (HS.out.chg c (by simp)); clear c HS C1) | (go_at_call 7; refine (check_ok (n := 6) (m := 2) _ _ _ _ _ _ _ none 0 0 l18 (bs0 6 2 1) b0_ok _ HS2.out rfl (by omega) (fun w _ => new_w 2 6 1 1 2 2 2 rfl w) 16 (by rw [l18_at]; rfl) 2 (by rw [l18_at]; rfl)).mono ?_; rintro e w3 ⟨rfl, c⟩; have C3 := Lib.hid (C2.out.trans c); have HS3 := Lib.hid (HS2.out.chg c (by simp)); clear c HS2 C2))
  have hsl : ∀ w, slR Try.prog 25 (.slice (some ⟨b1, 0, none⟩) 3 3) none (some (.int .i64 2)) none w = .ok (.slice (some ⟨b1, 0, none⟩) 2 3) w := fun w => slE_to _ 3 3 2 (by omega) (by omega) w
  go_region_with (first | (go_at_call 15; refine (plain_any _).mono ?_; rintro e w4 ⟨rfl, c⟩; have C4 := Lib.hid (C3.out.drew.trans c); have HS4 := Lib.hid ((HS3.out.chg (Chg.refl [] w3).drew (by simp)).chg c (by simp)); clear c) | (go_at_call 9; refine (ends_ok (n := 6) (m := 2) _ _ _ _ _ _ _ none 0 0 (l18.take 2) (bs0 6 2 1) b0_ok _ (HS4.out.takeE rfl (by omega)) rfl (by omega) (fun w _ => new_w 2 6 1 1 2 2 2 rfl w) l18_all).mono ?_; rintro e w5 ⟨g5, p5, r5, rfl, h5, _, hp5, c⟩; have C5 := Lib.hid (C4.out.trans c); have HS5 := Lib.hid (HS4.out.chg c (by simp)); clear c HS4 C4))
  all_goals
    have hb5 := l18_ls r5
    generalize bk (trialB (bs0 6 2 1) (l18.take 2)).2.ls r5 = B5 at h5 hb5
    go_upto_region 4 with fail
    have h5d : w5.drew.heap[g5]? = some (.cells B5 44 (0, 0)) := h5
    go_region_with (first | (go_at_call 15; refine (plain_any _).mono ?_; rintro e w6 ⟨rfl, c⟩; have C6 := Lib.hid (C5.out.drew.trans c); have h6 := c.keep h5d (by simp); have HS6 := Lib.hid ((HS5.out.chg (Chg.refl [] w5).drew (by simp)).chg c (by simp)); clear c) | (go_at_call 10; refine (keeps_ok (n := 6) (m := 2) _ _ _ _ _ _ _ none 0 0 (l18.take 2) (bs0 6 2 1) b0_ok _ (HS6.out.takeE rfl (by omega)) rfl (by omega) (fun w _ => new_w 2 6 1 1 2 2 2 rfl w) l18_all).mono ?_; rintro e w7 ⟨g7, p7, r7, rfl, h7, _, hp7, c⟩; have C7 := Lib.hid (C6.out.trans c); have h7b := c.keep h6 (by simp); clear c HS6 C6))
    all_goals
      have hb7 := l18_ks r7
      generalize bk (trialB (bs0 6 2 1) (l18.take 2)).2.ks r7 = B7 at h7 hb7
      go_wp2_with fail
      go_ret
      exact ⟨rfl, C7.out⟩
end Go.Proofs.Ytnocekhgabgffaa
