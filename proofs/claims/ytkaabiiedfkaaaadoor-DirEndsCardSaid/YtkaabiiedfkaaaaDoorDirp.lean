/- DirPuts: walked. No condition. -/
import Derived.Test.YtkaabiiedfkaaaaDoorDirx
import Derived.BigQuiet
namespace Go.Proofs.YtkaabiiedfkaaaaDoor
open Go.RowKit
set_option linter.unusedVariables false
set_option maxHeartbeats 1000000
attribute [local go_sem ↓] append_appS copy_copS clear_clrS make_mkS slice_slS cell_row frozen_row loadLine storeLine loadMsg storeMsg heap_drew heap_drewN heap_alloc heap_past heap_setCell heap_putRow vs_get msc_kd msc_li msc_di msc_ke
attribute [local go_sem] rowCell_some rowFrozen_some rowHas_some rowIn_some rowPart_full rowPart_lit rowPut_full rowPut_lit rowSet_some size_putRow vs_size vs_one wideLine wideMsg run_loadS run_storeS run_appS run_copS run_clrS run_mkS run_slS loadW_at storeW_at fit_all fit_le one_int one_bool one_pointer one_slice allOne_list putRow_new ne_size1 ne_size2 ne_size3 ne_size4 zero8_length line_eq lit8 msc_size msc_one msc_part msc_in fold_msc
attribute [local simp ↓] heap_drew heap_drewN heap_alloc heap_past heap_setCell heap_putRow
attribute [local simp] rowCell_some rowFrozen_some rowHas_some rowIn_some rowPart_full rowPart_lit rowPut_full rowPut_lit rowSet_some size_putRow vs_size fit_all putRow_new ne_size1 ne_size2 ne_size3 ne_size4 zero8_length msc_size
attribute [local go_sem ↓] ec_he ec_di ec_ow ec_sh ec_bu ec_by ec_wa sc_to
attribute [local go_sem] mi_and mi_or mi_not mi_beq0 mi_bne0 ec_size ec_one ec_part ec_in ec_has ec_setDi ec_setOw ec_setSh ec_setBu ec_setBy ec_setWa ec_setSh0 ec_setWa0 ec_putM sc_size sc_one sc_part sc_in
attribute [local simp] ec_size sc_size ec_setDi ec_setOw ec_setSh ec_setBu ec_setBy ec_setWa ec_setSh0 ec_setWa0 ec_putM
attribute [local go_sem ↓] loadEn storeEn loadSd storeSd en_z0
attribute [local go_sem] wideEn wideSd fold_sc size11 putRow_newB putRow_newC ms5_lit
attribute [local simp] en_z0 putRow_newB putRow_newC fit_le ec_has
attribute [local go_sem ↓] loadEnR storeEnR loadSdR storeSdR
attribute [local go_sem] wideEnR wideSdR
attribute [local go_sem] ec_setHe ec_foldL


theorem down_at (x : En) (b : Bool) (h : goodE x = b) (w : World) : Calls Tryd.prog 13 #[.agg (ec x)] w fun e w' => e = .returned (.bool b) ∧ Chg [] w w' := h ▸ rgood_any7 x w
theorem msD_lit (kd li : Int) (l : List Int) (h : l.length = 8) : Array.foldl (fun cs y => cs.setIfInBounds (4 + y.snd) y.fst) #[.int .i64 kd, .int .i64 li, .bool true, .bool false, .int .u64 0, .int .u64 0, .int .u64 0, .int .u64 0, .int .u64 0, .int .u64 0, .int .u64 0, .int .u64 0] (vs l).zipIdx 0 8 = msc ⟨kd, li, true, false, l, h⟩ := by
  rw [fold_put _ _ _ _ (by rw [vs_size, h]) (by simp)]
  obtain ⟨a0, a1, a2, a3, a4, a5, a6, a7, rfl⟩ := eight h
  rfl
attribute [local go_sem] msD_lit
theorem bit_eq0 (c : Int) : (bitM c == 0#8) = !(isC c) := by rw [← bit_ne0, bne, Bool.not_not]
/-- What a good entry with an owner has. -/
theorem good_sh {x : En} (g : goodE x = true) (hh : x.he = true) (h : isC x.ow = true) : x.sh = 0#8 := by
  simp only [goodE, hh, if_true, goodOw, Bool.and_eq_true, Bool.or_eq_true, beq_iff_eq] at g
  rcases g.1 with h1 | h1
  · rw [h1] at h; simp [isC] at h
  · exact h1.2
theorem good_ow {x : En} (g : goodE x = true) (hh : x.he = true) : x.ow = -1 ∨ (isC x.ow = true ∧ x.sh = 0#8) := by
  simp only [goodE, hh, if_true, goodOw, Bool.and_eq_true, Bool.or_eq_true, beq_iff_eq] at g
  rcases g.1 with h1 | h1
  · exact .inl h1
  · exact .inr h1
theorem not_bits (s : Mk) : (0#8 &&& ~~~s) = 0#8 := by apply mk_ext; intro k _; rw [has_not, has_zero]; rfl
theorem mg_put (l : List Int) (h8 : l.length = 8) : mg ⟨3, 4, true, false, l, h8⟩ = true := by simp [mg, kindB, lineB, mayD]

theorem put_own (x : En) (c : Int) (l : List Int) (h8 : l.length = 8) (g : goodE x = true) (hh : x.he = true) (hc : isC c = true) (h : x.ow = c) (a : En) (ha : (putE x c ⟨3, 4, true, false, l, h8⟩).1 = a) : a.ow = -1 ∧ a.sh = 0#8 ∧ a.di = true ∧ a.l = l := by
  subst ha
  have hs : x.sh = 0#8 := good_sh g hh (by rw [h]; exact hc)
  simp [putE, h, withoutE, writtenE, En.setOw, En.setSh, En.setL, En.setDi, hs]
theorem put_other (x : En) (c : Int) (l : List Int) (h8 : l.length = 8) (h : ¬ x.ow = c) (a : En) (ha : (putE x c ⟨3, 4, true, false, l, h8⟩).1 = a) : a.ow = x.ow ∧ a.sh = x.sh &&& ~~~(bitM c) ∧ a.di = x.di ∧ a.l = x.l := by
  subst ha
  simp [putE, h, withoutE, En.setSh]

set_option maxHeartbeats 4000000 in
theorem dputs_any (x : En) (c : Int) (l : List Int) (h8 : l.length = 8) (w : World) (ht : Tab w) : Calls Tryd.prog 7 #[.agg (ec x), .int .i64 c, .agg (vs l)] w fun e w' => e = .returned (.bool true) ∧ Chg [] w w' := by
  have HT := Lib.hid ht
  clear ht
  cases g1 : goodE x
  · skip
    go_enter Tryd.func7, Tryd.ntmps7
    try dsimp only [List.append]
    go_wp2_with fail
    refine gen_calls2 (w := w) (b1 := w.heap.size) (x1 := .cells (ec (x)) 26 (0, 0)) (b2 := w.heap.size + 1) (x2 := .cells (vs l) 24 (0, 0)) (by (repeat' (first | with_reducible exact Chg.refl _ _ | with_reducible assumption | with_reducible refine Chg.drew ?_ | with_reducible refine Chg.drewN ?_ _ | with_reducible refine Chg.alloc ?_ _ | with_reducible refine Chg.putRow ?_ _ _ _ (.inr ?_) | with_reducible refine Chg.setCell ?_ _ _ _ (.inr ?_)  | (show _ ≤ _; first | exact Nat.le_refl _ | omega | (simp; done))))) (by simp [*]) (by simp [*]) fun w1 C1 rE rL => ?_
    have oE := old rE
    have oL := old rL
    have HC := Lib.hid C1
    clear C1
    refine (down_any x w1).mono ?_
    rintro e w2 ⟨rfl, c2⟩
    replace rE := c2.keep rE (by simp)
    replace rL := c2.keep rL (by simp)
    have C2 := Lib.hid (HC.out.trans c2)
    clear c2 HC oE oL
    have oE := old rE
    have oL := old rL
    go_wp2_with fail
    refine (down_at x _ g1 w2).mono ?_
    rintro e w3 ⟨rfl, c3⟩
    replace rE := c3.keep rE (by simp)
    replace rL := c3.keep rL (by simp)
    have C3 := Lib.hid (C2.out.trans c3)
    clear c3 C2 oE oL
    have oE := old rE
    have oL := old rL
    go_wp2_with (go_at_call 20; refine (dwakes _ (HT.out.keep C3.out (by simp))).mono ?_; rintro e w9 ⟨rfl, c9⟩)
    go_ret
    exact ⟨rfl, C3.out.trans c9⟩
  cases g2 : x.he
  · skip
    go_enter Tryd.func7, Tryd.ntmps7
    try dsimp only [List.append]
    go_wp2_with fail
    refine gen_calls2 (w := w) (b1 := w.heap.size) (x1 := .cells (ec (x)) 26 (0, 0)) (b2 := w.heap.size + 1) (x2 := .cells (vs l) 24 (0, 0)) (by (repeat' (first | with_reducible exact Chg.refl _ _ | with_reducible assumption | with_reducible refine Chg.drew ?_ | with_reducible refine Chg.drewN ?_ _ | with_reducible refine Chg.alloc ?_ _ | with_reducible refine Chg.putRow ?_ _ _ _ (.inr ?_) | with_reducible refine Chg.setCell ?_ _ _ _ (.inr ?_)  | (show _ ≤ _; first | exact Nat.le_refl _ | omega | (simp; done))))) (by simp [*]) (by simp [*]) fun w1 C1 rE rL => ?_
    have oE := old rE
    have oL := old rL
    have HC := Lib.hid C1
    clear C1
    refine (down_any x w1).mono ?_
    rintro e w2 ⟨rfl, c2⟩
    replace rE := c2.keep rE (by simp)
    replace rL := c2.keep rL (by simp)
    have C2 := Lib.hid (HC.out.trans c2)
    clear c2 HC oE oL
    have oE := old rE
    have oL := old rL
    go_wp2_with fail
    refine (down_at x _ g1 w2).mono ?_
    rintro e w3 ⟨rfl, c3⟩
    replace rE := c3.keep rE (by simp)
    replace rL := c3.keep rL (by simp)
    have C3 := Lib.hid (C2.out.trans c3)
    clear c3 C2 oE oL
    have oE := old rE
    have oL := old rL
    go_wp2_with (go_at_call 20; refine (dwakes _ (HT.out.keep C3.out (by simp))).mono ?_; rintro e w9 ⟨rfl, c9⟩)
    go_ret
    exact ⟨rfl, C3.out.trans c9⟩
  cases g3 : (x.bu != 0)
  rotate_left
  · skip
    go_enter Tryd.func7, Tryd.ntmps7
    try dsimp only [List.append]
    go_wp2_with fail
    refine gen_calls2 (w := w) (b1 := w.heap.size) (x1 := .cells (ec (x)) 26 (0, 0)) (b2 := w.heap.size + 1) (x2 := .cells (vs l) 24 (0, 0)) (by (repeat' (first | with_reducible exact Chg.refl _ _ | with_reducible assumption | with_reducible refine Chg.drew ?_ | with_reducible refine Chg.drewN ?_ _ | with_reducible refine Chg.alloc ?_ _ | with_reducible refine Chg.putRow ?_ _ _ _ (.inr ?_) | with_reducible refine Chg.setCell ?_ _ _ _ (.inr ?_)  | (show _ ≤ _; first | exact Nat.le_refl _ | omega | (simp; done))))) (by simp [*]) (by simp [*]) fun w1 C1 rE rL => ?_
    have oE := old rE
    have oL := old rL
    have HC := Lib.hid C1
    clear C1
    refine (down_any x w1).mono ?_
    rintro e w2 ⟨rfl, c2⟩
    replace rE := c2.keep rE (by simp)
    replace rL := c2.keep rL (by simp)
    have C2 := Lib.hid (HC.out.trans c2)
    clear c2 HC oE oL
    have oE := old rE
    have oL := old rL
    go_wp2_with fail
    refine (down_at x _ g1 w2).mono ?_
    rintro e w3 ⟨rfl, c3⟩
    replace rE := c3.keep rE (by simp)
    replace rL := c3.keep rL (by simp)
    have C3 := Lib.hid (C2.out.trans c3)
    clear c3 C2 oE oL
    have oE := old rE
    have oL := old rL
    go_wp2_with (go_at_call 20; refine (dwakes _ (HT.out.keep C3.out (by simp))).mono ?_; rintro e w9 ⟨rfl, c9⟩)
    go_ret
    exact ⟨rfl, C3.out.trans c9⟩
  cases g4 : isC c
  · have hbit : bitM c = 0#8 := bit_out g4
    go_enter Tryd.func7, Tryd.ntmps7
    try dsimp only [List.append]
    go_wp2_with fail
    refine gen_calls2 (w := w) (b1 := w.heap.size) (x1 := .cells (ec (x)) 26 (0, 0)) (b2 := w.heap.size + 1) (x2 := .cells (vs l) 24 (0, 0)) (by (repeat' (first | with_reducible exact Chg.refl _ _ | with_reducible assumption | with_reducible refine Chg.drew ?_ | with_reducible refine Chg.drewN ?_ _ | with_reducible refine Chg.alloc ?_ _ | with_reducible refine Chg.putRow ?_ _ _ _ (.inr ?_) | with_reducible refine Chg.setCell ?_ _ _ _ (.inr ?_)  | (show _ ≤ _; first | exact Nat.le_refl _ | omega | (simp; done))))) (by simp [*]) (by simp [*]) fun w1 C1 rE rL => ?_
    have oE := old rE
    have oL := old rL
    have HC := Lib.hid C1
    clear C1
    refine (down_any x w1).mono ?_
    rintro e w2 ⟨rfl, c2⟩
    replace rE := c2.keep rE (by simp)
    replace rL := c2.keep rL (by simp)
    have C2 := Lib.hid (HC.out.trans c2)
    clear c2 HC oE oL
    have oE := old rE
    have oL := old rL
    go_wp2_with fail
    refine (down_at x _ g1 w2).mono ?_
    rintro e w3 ⟨rfl, c3⟩
    replace rE := c3.keep rE (by simp)
    replace rL := c3.keep rL (by simp)
    have C3 := Lib.hid (C2.out.trans c3)
    clear c3 C2 oE oL
    have oE := old rE
    have oL := old rL
    go_wp2_with (first | (go_at_call 26; refine (rbit_any _ _).mono ?_; rintro e w' ⟨rfl, rfl⟩; (try rw [hbit])) | (go_at_call 20; refine (dwakes _ (HT.out.keep C3.out (by simp))).mono ?_; rintro e w9 ⟨rfl, c9⟩))
    go_ret
    exact ⟨rfl, C3.out.trans c9⟩
  have hbit : (bitM c == 0#8) = false := by rw [bit_eq0, g4]; rfl
  have hb0 : x.bu = 0 := by simpa using g3
  have ha : askE x c ⟨3, 4, true, false, l, h8⟩ = (putE x c ⟨3, 4, true, false, l, h8⟩, 0) := by
    simp [askE, askArg, g1, g4, mg_put, asksB, hb0, g2, deedE]
  have htell : (putE x c ⟨3, 4, true, false, l, h8⟩).2 = [⟨c, ms4 11 4 false false⟩] := by unfold putE; rw [tell_one g4]
  by_cases ho : x.ow = c
  · have hoc : (x.ow == c) = true := by simpa using ho
    go_enter Tryd.func7, Tryd.ntmps7
    try dsimp only [List.append]
    go_wp2_with fail
    refine gen_calls2 (w := w) (b1 := w.heap.size) (x1 := .cells (ec (x)) 26 (0, 0)) (b2 := w.heap.size + 1) (x2 := .cells (vs l) 24 (0, 0)) (by (repeat' (first | with_reducible exact Chg.refl _ _ | with_reducible assumption | with_reducible refine Chg.drew ?_ | with_reducible refine Chg.drewN ?_ _ | with_reducible refine Chg.alloc ?_ _ | with_reducible refine Chg.putRow ?_ _ _ _ (.inr ?_) | with_reducible refine Chg.setCell ?_ _ _ _ (.inr ?_)  | (show _ ≤ _; first | exact Nat.le_refl _ | omega | (simp; done))))) (by simp [*]) (by simp [*]) fun w1 C1 rE rL => ?_
    have oE := old rE
    have oL := old rL
    have HC := Lib.hid C1
    clear C1
    refine (down_any x w1).mono ?_
    rintro e w2 ⟨rfl, c2⟩
    replace rE := c2.keep rE (by simp)
    replace rL := c2.keep rL (by simp)
    have C2 := Lib.hid (HC.out.trans c2)
    clear c2 HC oE oL
    have oE := old rE
    have oL := old rL
    go_wp2_with fail
    refine (down_at x _ g1 w2).mono ?_
    rintro e w3 ⟨rfl, c3⟩
    replace rE := c3.keep rE (by simp)
    replace rL := c3.keep rL (by simp)
    have C3 := Lib.hid (C2.out.trans c3)
    clear c3 C2 oE oL
    have oE := old rE
    have oL := old rL
    go_wp2_with (go_at_call 26; refine (rbit_any _ _).mono ?_; rintro e w' ⟨rfl, rfl⟩; (try rw [hbit]))
    have hc := dask_any x c ⟨3, 4, true, false, l, h8⟩ w3 (HT.out.keep C3.out (by simp))
    rw [ha] at hc
    refine hc.mono ?_
    clear hc
    rintro e w4 ⟨A1, n1, rfl, hs, _, c4⟩
    obtain ⟨ss, hss⟩ : ∃ ss, ss = (putE x c ⟨3, 4, true, false, l, h8⟩).2 := ⟨_, rfl⟩
    obtain ⟨a, haa⟩ : ∃ a, a = (putE x c ⟨3, 4, true, false, l, h8⟩).1 := ⟨_, rfl⟩
    simp only [← hss, ← haa] at hs ⊢
    rw [htell] at hss
    subst hss
    replace rE := c4.keep rE (by simp)
    replace rL := c4.keep rL (by simp)
    have C4 := Lib.hid (C3.out.trans c4)
    clear c4 C3 oE oL
    have oE := old rE
    have oL := old rL
    obtain ⟨b1, o1, cs1, t1, q1, rfl, k1, i10, i11, i12, _⟩ := hs.sd (i := 0) rfl
    simp only [Nat.zero_mul, Nat.add_zero] at i10 i11 i12
    obtain ⟨f1, f2, f3, f4⟩ := put_own x c l h8 g1 g2 g4 ho a haa.symm
    have hll : (l == l) = true := by simp
    clear ha htell haa hs hb0
    go_wp2_with (go_at_call 20; refine (dwakes _ (HT.out.keep (C4.out.alloc _) (by simp))).mono ?_; rintro e w9 ⟨rfl, c9⟩)
    go_ret
    exact ⟨rfl, (C4.out.alloc _).trans c9⟩
  · have hoc : (x.ow == c) = false := by simpa using ho
    go_enter Tryd.func7, Tryd.ntmps7
    try dsimp only [List.append]
    go_wp2_with fail
    refine gen_calls2 (w := w) (b1 := w.heap.size) (x1 := .cells (ec (x)) 26 (0, 0)) (b2 := w.heap.size + 1) (x2 := .cells (vs l) 24 (0, 0)) (by (repeat' (first | with_reducible exact Chg.refl _ _ | with_reducible assumption | with_reducible refine Chg.drew ?_ | with_reducible refine Chg.drewN ?_ _ | with_reducible refine Chg.alloc ?_ _ | with_reducible refine Chg.putRow ?_ _ _ _ (.inr ?_) | with_reducible refine Chg.setCell ?_ _ _ _ (.inr ?_)  | (show _ ≤ _; first | exact Nat.le_refl _ | omega | (simp; done))))) (by simp [*]) (by simp [*]) fun w1 C1 rE rL => ?_
    have oE := old rE
    have oL := old rL
    have HC := Lib.hid C1
    clear C1
    refine (down_any x w1).mono ?_
    rintro e w2 ⟨rfl, c2⟩
    replace rE := c2.keep rE (by simp)
    replace rL := c2.keep rL (by simp)
    have C2 := Lib.hid (HC.out.trans c2)
    clear c2 HC oE oL
    have oE := old rE
    have oL := old rL
    go_wp2_with fail
    refine (down_at x _ g1 w2).mono ?_
    rintro e w3 ⟨rfl, c3⟩
    replace rE := c3.keep rE (by simp)
    replace rL := c3.keep rL (by simp)
    have C3 := Lib.hid (C2.out.trans c3)
    clear c3 C2 oE oL
    have oE := old rE
    have oL := old rL
    go_wp2_with (go_at_call 26; refine (rbit_any _ _).mono ?_; rintro e w' ⟨rfl, rfl⟩; (try rw [hbit]))
    have hc := dask_any x c ⟨3, 4, true, false, l, h8⟩ w3 (HT.out.keep C3.out (by simp))
    rw [ha] at hc
    refine hc.mono ?_
    clear hc
    rintro e w4 ⟨A1, n1, rfl, hs, _, c4⟩
    obtain ⟨ss, hss⟩ : ∃ ss, ss = (putE x c ⟨3, 4, true, false, l, h8⟩).2 := ⟨_, rfl⟩
    obtain ⟨a, haa⟩ : ∃ a, a = (putE x c ⟨3, 4, true, false, l, h8⟩).1 := ⟨_, rfl⟩
    simp only [← hss, ← haa] at hs ⊢
    rw [htell] at hss
    subst hss
    replace rE := c4.keep rE (by simp)
    replace rL := c4.keep rL (by simp)
    have C4 := Lib.hid (C3.out.trans c4)
    clear c4 C3 oE oL
    have oE := old rE
    have oL := old rL
    obtain ⟨b1, o1, cs1, t1, q1, rfl, k1, i10, i11, i12, _⟩ := hs.sd (i := 0) rfl
    simp only [Nat.zero_mul, Nat.add_zero] at i10 i11 i12
    obtain ⟨f1, f2, f3, f4⟩ := put_other x c l h8 ho a haa.symm
    clear ha htell haa hs hb0
    go_wp2_with fail
    have c4o := C4.out
    refine gen_world2 (w := w) (b1 := w.heap.size) (x1 := .cells (ec (x)) 26 (0, 0)) (b2 := w4.heap.size) (x2 := .cells (ec (a)) 26 (0, 0)) (by (repeat' (first | with_reducible exact Chg.refl _ _ | with_reducible assumption | with_reducible refine Chg.drew ?_ | with_reducible refine Chg.drewN ?_ _ | with_reducible refine Chg.alloc ?_ _ | with_reducible refine Chg.putRow ?_ _ _ _ (.inr ?_) | with_reducible refine Chg.setCell ?_ _ _ _ (.inr ?_)  | (show _ ≤ _; first | exact Nat.le_refl _ | omega | (simp; done))))) (by simp [rE]) (by simp) fun w5 C5 rE5 rA5 => ?_
    have hx : ∀ y : Aft w5.heap.size w5, y.w.heap[w.heap.size]? = some (.cells (ec (x)) 26 (0, 0)) := fun y => (y.block (old rE5).lt).trans rE5
    have hy : ∀ y : Aft w5.heap.size w5, y.w.heap[w4.heap.size]? = some (.cells (ec (a)) 26 (0, 0)) := fun y => (y.block (old rA5).lt).trans rA5
    have HX := Lib.hid (show ∀ y : Aft w5.heap.size w5, Tab y.w from fun y => (HT.out.keep C5 (by simp)).keep (Below.chg y.below (Nat.le_refl _)) (by simp))
    have HC5 := Lib.hid C5
    clear C5 c4o C4 rE oE rL oL
    have hll : (x.l == x.l) = true := by simp
    have he := fun W => line_eq x.l x.l x.h x.h W
    refine wp_region_aft w5.heap.size (by kernel_rfl) (by kernel_rfl) ?_
    repeat (go_big_quiet_step (first
      | (go_at_call 26; exact calls_aft_same (rbit_any _ _))
      | (go_at_call 20; exact calls_aftR (Nat.le_refl _) (dwakes _ (HX.out _)))))
    refine wpQuiet_nil ?_
    rintro _ ⟨y, rfl⟩
    go_wp2_with fail
    go_ret
    exact ⟨by simp, HC5.out.trans (Below.chg y.below (Nat.le_refl _))⟩
end Go.Proofs.YtkaabiiedfkaaaaDoor
