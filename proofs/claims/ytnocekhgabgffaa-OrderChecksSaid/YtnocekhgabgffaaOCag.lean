/- Texts of the walk, one behind the other: Rbe Rbg Rbi Rbh Rbf. No condition. -/
import Derived.Test.YtnocekhgabgffaaOCad
import Derived.Test.YtnocekhgabgffaaOCaf
section
namespace Go.Proofs.Ytnocekhgabgffaa
open Go.RowKit
set_option linter.unusedVariables false
set_option maxHeartbeats 1000000

set_option maxRecDepth 100000
attribute [local go_sem ↓] append_appS copy_copS clear_clrS make_mkS slice_slS lookup_lookS mput_mputS del_mdelS cell_row frozen_row heap_drew heap_drewN heap_alloc heap_past heap_setCell heap_putRow heap_setB loadEv storeEv loadBe storeBe loadSp storeSp loadNw storeNw loadLine storeLine evc_kd evc_co evc_li evc_wo evc_va bec_fl bec_li bec_wo bec_va nwC_0 nwC_1 spC_0 spC_1
attribute [local go_sem] rowCell_some rowFrozen_some rowHas_some rowIn_some rowPart_full rowPart_lit rowPut_full rowPut_lit rowSet_some size_putRow size_setB run_loadS run_storeS run_appS run_copS run_clrS run_mkS run_slS run_lookS run_mputS run_mdelS loadW_at storeW_at fit_all fit_le one_int one_bool one_pointer one_slice allOne_list putRow_new ne_size1 ne_size2 ne_size3 ne_size4 wideEv wideBe wideSp wideNw wideLine evc_size evc_one evc_ne evc_lit evc_z fold_evc bec_size bec_one bec_lit bec_ne bec_at bec_in spC_size spC_one nwC_size nwC_one nwC_ne nwC_set0 nwC_set1 nwC_lit bec_set0 bec_set1 bec_set2 bec_set3 spC_set0 spC_set1 spC_lit fold_spC spC_ne fold_nwC fold_bec fold_at vs_size vs_one ic_size ic_get
attribute [local simp ↓] heap_drew heap_drewN heap_alloc heap_past heap_setCell heap_putRow heap_setB
attribute [local simp] rowCell_some rowFrozen_some rowHas_some rowIn_some rowPart_full rowPart_lit rowPut_full rowPut_lit rowSet_some size_putRow size_setB fit_all putRow_new ne_size1 ne_size2 ne_size3 ne_size4 evc_size bec_size spC_size nwC_size vs_size fit_le
attribute [local go_sem ↓] index_ixS18
attribute [local go_sem] run_ixS18
/-! ### What an event names -/
section
variable {z : Cf} {w w' : World} {q bl kb bp bc ck : Nat} {I : List Nat} {xs : List Ci} {R : Rb} {N : Nat}
theorem rthere_any (P : DbP z w q bl kb bp bc ck I xs R) (ok : R.Ok z N) (e : Ev) (r : Bool) (hr : r = hasR R e) :
    Calls Try.prog 27 #[.pointer (some ⟨q, 0, none⟩), .agg (evc e)] w fun v w' => v = .returned (.bool r) ∧ Chg [] w w' := by
  have hq := P.hq
  obtain ⟨kd, co, li, wo, va⟩ := e
  by_cases h1 : kd < 1
  · have h0 : r = false := by rw [hr]; unfold hasR kindB; simp; omega
    subst h0
    obtain ⟨n1, n2⟩ := one_new w (.cells (evc ⟨kd, co, li, wo, va⟩) 41)
    have N2 := Lib.hid n2
    clear hr P n2
    go_enter Try.func27, Try.ntmps27
    go_upto_region 1 with fail
    generalize w.alloc (.cells (evc ⟨kd, co, li, wo, va⟩) 41) = w1 at *
    generalize w.heap.size = p at *
    go_wp2_with fail
    go_ret
    exact ⟨rfl, N2.out⟩
  by_cases h2 : 14 < kd
  · have h0 : r = false := by rw [hr]; unfold hasR kindB; simp; omega
    subst h0
    obtain ⟨n1, n2⟩ := one_new w (.cells (evc ⟨kd, co, li, wo, va⟩) 41)
    have N2 := Lib.hid n2
    clear hr P n2
    go_enter Try.func27, Try.ntmps27
    go_upto_region 1 with fail
    generalize w.alloc (.cells (evc ⟨kd, co, li, wo, va⟩) 41) = w1 at *
    generalize w.heap.size = p at *
    go_wp2_with fail
    go_ret
    exact ⟨rfl, N2.out⟩
  have hk : kd = 1 ∨ kd = 2 ∨ kd = 3 ∨ kd = 4 ∨ kd = 5 ∨ kd = 6 ∨ kd = 7 ∨ kd = 8 ∨ kd = 9 ∨ kd = 10 ∨ kd = 11 ∨ kd = 12 ∨ kd = 13 ∨ kd = 14 := by omega
  unfold hasR at hr
  rw [ok.cs, ok.ps] at hr
  clear h1 h2
  rcases hk with rfl | rfl | rfl | rfl | rfl | rfl | rfl | rfl | rfl | rfl | rfl | rfl | rfl | rfl
  · exact there_CLW 1 co li wo va (by omega) (by omega) rhas_1 hq r (by rw [hr]; simp [kindB, namesC, namesL, namesW])
  · exact there_CLW 2 co li wo va (by omega) (by omega) rhas_2 hq r (by rw [hr]; simp [kindB, namesC, namesL, namesW])
  · exact there_CLW 3 co li wo va (by omega) (by omega) rhas_3 hq r (by rw [hr]; simp [kindB, namesC, namesL, namesW])
  · exact there_CLW 4 co li wo va (by omega) (by omega) rhas_4 hq r (by rw [hr]; simp [kindB, namesC, namesL, namesW])
  · exact there_L 5 co li wo va (by omega) (by omega) rhas_5 hq r (by rw [hr]; simp [kindB, namesC, namesL, namesW])
  · exact there_CL 6 co li wo va (by omega) (by omega) rhas_6 hq r (by rw [hr]; simp [kindB, namesC, namesL, namesW])
  · exact there_C 7 co li wo va (by omega) (by omega) rhas_7 hq r (by rw [hr]; simp [kindB, namesC, namesL, namesW])
  · exact there_C 8 co li wo va (by omega) (by omega) rhas_8 hq r (by rw [hr]; simp [kindB, namesC, namesL, namesW])
  · exact there_C 9 co li wo va (by omega) (by omega) rhas_9 hq r (by rw [hr]; simp [kindB, namesC, namesL, namesW])
  · exact there_C 10 co li wo va (by omega) (by omega) rhas_10 hq r (by rw [hr]; simp [kindB, namesC, namesL, namesW])
  · exact there_ 11 co li wo va (by omega) (by omega) rhas_11 hq r (by rw [hr]; simp [kindB, namesC, namesL, namesW])
  · exact there_CLW 12 co li wo va (by omega) (by omega) rhas_12 hq r (by rw [hr]; simp [kindB, namesC, namesL, namesW])
  · exact there_CL 13 co li wo va (by omega) (by omega) rhas_13 hq r (by rw [hr]; simp [kindB, namesC, namesL, namesW])
  · exact there_CL 14 co li wo va (by omega) (by omega) rhas_14 hq r (by rw [hr]; simp [kindB, namesC, namesL, namesW])
end
/-! ### Lines, cores -/
theorem lines_ext {n : Nat} {X Y : List Int} (hX : X.length = n * 8) (hY : Y.length = n * 8) (h : ∀ l, l < n → ln X l = ln Y l) : X = Y := by
  apply List.ext_getElem?
  intro k
  by_cases hk : k < n * 8
  · have h1 := congrArg (fun t => t[k % 8]?) (h (k / 8) (by omega))
    simp only [ln] at h1
    rw [List.getElem?_take_of_lt (by omega), List.getElem?_take_of_lt (by omega), List.getElem?_drop, List.getElem?_drop, show k / 8 * 8 + k % 8 = k by omega] at h1
    exact h1
  · rw [List.getElem?_eq_none (by omega), List.getElem?_eq_none (by omega)]
theorem lnPut_twice {X a b : List Int} {l : Nat} (h : Fit (l * 8) 8 X.length) (ha : a.length = 8) (hb : b.length = 8) : lnPut (lnPut X l a) l b = lnPut X l b := by
  have hf := h.out
  have l1 := lnPut_length X l a h ha
  have l2 := lnPut_length X l b h hb
  have l3 : (lnPut (lnPut X l a) l b).length = X.length := by rw [lnPut_length _ _ _ (by rw [l1]; exact h) hb, l1]
  unfold lnPut splice at l1 ⊢
  have e1 : (List.take (l * 8) X).length = l * 8 := by simp; omega
  have e2 : (List.take (l * 8) X ++ a).length = l * 8 + 8 := by rw [List.length_append, e1, ha]
  rw [ha, hb]
  have e3 : List.take (l * 8) (List.take (l * 8) X ++ a ++ List.drop (l * 8 + 8) X) = List.take (l * 8) X := by
    rw [List.append_assoc, List.take_append_of_le_length (by omega), List.take_of_length_le (by omega)]
  have e4 : List.drop (l * 8 + 8) (List.take (l * 8) X ++ a ++ List.drop (l * 8 + 8) X) = List.drop (l * 8 + 8) X := by
    rw [← e2, List.drop_left]
  rw [e3, e4]
theorem ci_info : (Try.prog.info? 82).map (fun i => (i.zero, i.size, i.bytes)) = some (some (.agg (Ci.enc ciZ).toArray), 6, 72) := by kernel_rfl
theorem made_ci (n : Nat) : madeCells (Ci.enc ciZ).toArray (n * 6) = sq Ci.enc (List.replicate n ciZ) [] := by
  apply Array.ext
  · rw [sq_size Ci.len]
    simp [madeCells]
  · intro k h1 h2
    have hk : k < n * 6 := by simpa [madeCells] using h1
    obtain ⟨i, j, hj, rfl⟩ : ∃ i j, j < 6 ∧ k = i * 6 + j := ⟨k / 6, k % 6, Nat.mod_lt _ (by omega), by omega⟩
    have hi : i < n := by omega
    have h3 := sq_cell (enc := Ci.enc) Ci.len (xs := List.replicate n ciZ) (i := i) (a := ciZ) (by simp [hi]) [] j hj
    rw [Array.getElem?_eq_getElem h2] at h3
    have h6 : (i * 6 + j) % 6 = j := by omega
    have h7 : (Ci.enc ciZ).toArray.size = 6 := rfl
    apply Option.some.inj
    rw [h3]
    simp only [madeCells, Array.getElem_map, Array.getElem_range, h7, h6]
    have h5 : j = 0 ∨ j = 1 ∨ j = 2 ∨ j = 3 ∨ j = 4 ∨ j = 5 := by omega
    rcases h5 with rfl | rfl | rfl | rfl | rfl | rfl <;> rfl
theorem run_make_ci (w : World) (n : Nat) (hn : n ≤ 64) : mkR Try.prog 56 (.int .i64 n) (.int .i64 n) w = .ok (.slice (some ⟨w.heap.size, 0, none⟩) n n) (w.alloc (.cells (sq Ci.enc (List.replicate n ciZ) []) 82)) := by
  obtain ⟨i0, hi0, hz0, hz1, hz2⟩ := info_parts ci_info
  have := run_make (P := Try.prog) w 56 82 i0 _ Try.underlying56 hi0 hz0 .i64 .i64 n n (by omega) (by omega) (by rw [hz2]; omega) (by omega)
  simp only [Int.toNat_natCast, hz1] at this
  rw [← made_ci]
  exact this
end Go.Proofs.Ytnocekhgabgffaa
end
section
namespace Go.Proofs.Ytnocekhgabgffaa
open Go.RowKit
set_option linter.unusedVariables false
set_option maxHeartbeats 1000000

set_option maxRecDepth 100000
attribute [local go_sem ↓] append_appS copy_copS clear_clrS make_mkS slice_slS lookup_lookS mput_mputS del_mdelS cell_row frozen_row heap_drew heap_drewN heap_alloc heap_past heap_setCell heap_putRow heap_setB loadEv storeEv loadBe storeBe loadSp storeSp loadNw storeNw loadLine storeLine evc_kd evc_co evc_li evc_wo evc_va bec_fl bec_li bec_wo bec_va nwC_0 nwC_1 spC_0 spC_1
attribute [local go_sem] rowCell_some rowFrozen_some rowHas_some rowIn_some rowPart_full rowPart_lit rowPut_full rowPut_lit rowSet_some size_putRow size_setB run_loadS run_storeS run_appS run_copS run_clrS run_mkS run_slS run_lookS run_mputS run_mdelS loadW_at storeW_at fit_all fit_le one_int one_bool one_pointer one_slice allOne_list putRow_new ne_size1 ne_size2 ne_size3 ne_size4 wideEv wideBe wideSp wideNw wideLine evc_size evc_one evc_ne evc_lit evc_z fold_evc bec_size bec_one bec_lit bec_ne bec_at bec_in spC_size spC_one nwC_size nwC_one nwC_ne nwC_set0 nwC_set1 nwC_lit bec_set0 bec_set1 bec_set2 bec_set3 spC_set0 spC_set1 spC_lit fold_spC spC_ne fold_nwC fold_bec fold_at vs_size vs_one ic_size ic_get
attribute [local simp ↓] heap_drew heap_drewN heap_alloc heap_past heap_setCell heap_putRow heap_setB
attribute [local simp] rowCell_some rowFrozen_some rowHas_some rowIn_some rowPart_full rowPart_lit rowPut_full rowPut_lit rowSet_some size_putRow size_setB fit_all putRow_new ne_size1 ne_size2 ne_size3 ne_size4 evc_size bec_size spC_size nwC_size vs_size fit_le
attribute [local go_sem ↓] loadIt storeIt loadSn storeSn loadPl storePl
attribute [local go_sem] wideIt wideSn widePl
theorem calls_aft_chg18 {P : Program} {f : FuncId} {args : Array Value} {N : Nat} {W : World} {x : Aft N W} {v : Value} (hN : N ≤ W.heap.size)
    (h : Calls P f args x.w fun e w' => e = .returned v ∧ Chg [] x.w w') : Calls P f args x.w fun e w'' => e = .returned v ∧ ∃ y : Aft N W, w'' = y.w :=
  calls_aft hN (h.mono fun _ _ ⟨he, hc⟩ => ⟨he, hc.below (Nat.le_refl _) (by simp)⟩)
theorem ci_part {xs : List Ci} {i : Nat} {x : Ci} (h : xs[i]? = some x) (t : TypeId) (f : Nat × Nat) : rowPart (some (.cells (sq Ci.enc xs []) t f)) (i * 6 + 4) 2 = spC x.pl.1 x.pl.2 ∧ rowIn (some (.cells (sq Ci.enc xs []) t f)) (i * 6 + 4) 2 = true :=
  ⟨rowPart_sq Ci.len h [] t f 4 2 (by omega), rowIn_sq Ci.len (List.getElem?_eq_some_iff.1 h).1 [] t f 4 2 (by omega)⟩
theorem bk_word {xs : List Int} {k : Nat} (h : k < xs.length) (r : List Value) : (bk xs r)[k]? = some (.int .u64 (xs.getD k 0)) := by
  unfold bk
  rw [List.getElem?_toArray, List.getElem?_append_left (by simpa using h), List.getElem?_map, List.getElem?_eq_getElem h, List.getD_eq_getElem?_getD, List.getElem?_eq_getElem h]; rfl
theorem ic_num {xs : List Int} {k : Nat} (h : k < xs.length) : (ic xs)[k]? = some (.int .i64 (xs.getD k 0)) := by
  rw [ic_get, List.getElem?_eq_getElem h, List.getD_eq_getElem?_getD, List.getElem?_eq_getElem h]; rfl
section
variable {z : Cf} {w w' : World} {q bl kb bp bc ck : Nat} {I : List Nat} {xs : List Ci} {R : Rb} {N : Nat}
theorem may_other (P : DbP z w q bl kb bp bc ck I xs R) (ok : R.Ok z N) (hN : N ≤ 1000) {i : Nat} (hi : i < z.m) (kd co li wo va : Int) (t2 : (kd == 2) = false) (t1 : (kd == 1) = false) (t4 : (kd == 4) = false) (t7 : (kd == 7) = false) (t3 : (kd == 3) = false) (t13 : (kd == 13) = false) (t6 : (kd == 6) = false) (r : Bool) (hr : r = true) :
    Calls Try.prog 29 #[.pointer (some ⟨q, 0, none⟩), .pointer (some ⟨bc, i * 6, none⟩), .agg (evc ⟨kd, co, li, wo, va⟩)] w fun v w' => v = .returned (.bool r) ∧ Chg [] w w' := by
  obtain ⟨x, hx, hcr, hd⟩ := P.core hi
  obtain ⟨n1, n2⟩ := one_new w (.cells (evc ⟨kd, co, li, wo, va⟩) 41)
  have P1 := P.keep n2 (by simp)
  have D1 := Lib.hid (hd.keep n2 (by simp))
  have N2 := Lib.hid n2
  have HR := Lib.hid hr
  obtain ⟨hcs, hcs2⟩ := ok.core i
  obtain ⟨c0, c1, c2, c3, c4, c5⟩ := ci_cells hx
  have dp := fun (t : TypeId) (f : Nat × Nat) => (ci_part hx t f).1
  have di := fun (t : TypeId) (f : Nat × Nat) => (ci_part hx t f).2
  have hb1 := P1.hc
  have hq1 := P1.hq
  have hl1 := P1.hl
  have hp1 := P1.hp
  unfold dbc at hq1
  rw [hd.n] at c0
  rw [hd.k] at c1
  rw [hd.st] at c2
  rw [hd.lk] at c3
  rw [hd.pl] at c4 c5 dp
  generalize hcc : R.core i = c at *
  have tL : ((c.L.length : Int) == 0) = c.L.isEmpty := by cases c.L <;> simp; omega
  have tS : ((c.S.length : Int) == 0) = c.S.isEmpty := by cases c.S <;> simp; omega
  have gL : (c.L.length : Int) ≤ 1000 := by omega
  have gS : (c.S.length : Int) ≤ 1000 := by omega
  have HX := Lib.hid hx
  clear n2 hd P hcr hr
  go_enter Try.func29, Try.ntmps29
  try dsimp only [List.append]
  go_upto_region 1 with fail
  generalize w.alloc (.cells (evc ⟨kd, co, li, wo, va⟩) 41) = w1 at *
  generalize w.heap.size = p at *
  cases hbL : c.L.isEmpty
  · rw [hbL] at tL
    go_wp2_with fail
    go_ret
    exact ⟨by rw [HR.out]; rfl, N2.out⟩
  · rw [hbL] at tL
    cases hbS : c.S.isEmpty
    · rw [hbS] at tS
      go_wp2_with fail
      go_ret
      exact ⟨by rw [HR.out]; rfl, N2.out⟩
    · rw [hbS] at tS
      go_wp2_with fail
      go_ret
      exact ⟨by rw [HR.out]; rfl, N2.out⟩
theorem may_7 (P : DbP z w q bl kb bp bc ck I xs R) (ok : R.Ok z N) (hN : N ≤ 1000) {i : Nat} (hi : i < z.m) (kd co li wo va : Int) (t2 : (kd == 2) = false) (t1 : (kd == 1) = false) (t4 : (kd == 4) = false) (t7 : (kd == 7) = true)  (r : Bool) (hr : r = calmR (R.core i)) :
    Calls Try.prog 29 #[.pointer (some ⟨q, 0, none⟩), .pointer (some ⟨bc, i * 6, none⟩), .agg (evc ⟨kd, co, li, wo, va⟩)] w fun v w' => v = .returned (.bool r) ∧ Chg [] w w' := by
  obtain ⟨x, hx, hcr, hd⟩ := P.core hi
  obtain ⟨n1, n2⟩ := one_new w (.cells (evc ⟨kd, co, li, wo, va⟩) 41)
  have P1 := P.keep n2 (by simp)
  have D1 := Lib.hid (hd.keep n2 (by simp))
  have N2 := Lib.hid n2
  have HR := Lib.hid hr
  obtain ⟨hcs, hcs2⟩ := ok.core i
  obtain ⟨c0, c1, c2, c3, c4, c5⟩ := ci_cells hx
  have dp := fun (t : TypeId) (f : Nat × Nat) => (ci_part hx t f).1
  have di := fun (t : TypeId) (f : Nat × Nat) => (ci_part hx t f).2
  have hb1 := P1.hc
  have hq1 := P1.hq
  have hl1 := P1.hl
  have hp1 := P1.hp
  unfold dbc at hq1
  rw [hd.n] at c0
  rw [hd.k] at c1
  rw [hd.st] at c2
  rw [hd.lk] at c3
  rw [hd.pl] at c4 c5 dp
  generalize hcc : R.core i = c at *
  have tL : ((c.L.length : Int) == 0) = c.L.isEmpty := by cases c.L <;> simp; omega
  have tS : ((c.S.length : Int) == 0) = c.S.isEmpty := by cases c.S <;> simp; omega
  have gL : (c.L.length : Int) ≤ 1000 := by omega
  have gS : (c.S.length : Int) ≤ 1000 := by omega
  have HX := Lib.hid hx
  clear n2 hd P hcr hr
  go_enter Try.func29, Try.ntmps29
  try dsimp only [List.append]
  go_upto_region 1 with fail
  generalize w.alloc (.cells (evc ⟨kd, co, li, wo, va⟩) 41) = w1 at *
  generalize w.heap.size = p at *
  cases hbL : c.L.isEmpty
  · rw [hbL] at tL
    go_wp2_with fail
    go_ret
    exact ⟨by rw [HR.out, show calmR c = false by unfold calmR; simp [*]]; rfl, N2.out⟩
  · rw [hbL] at tL
    cases hbS : c.S.isEmpty
    · rw [hbS] at tS
      go_wp2_with fail
      go_ret
      exact ⟨by rw [HR.out, show calmR c = false by unfold calmR; simp [*]]; rfl, N2.out⟩
    · rw [hbS] at tS
      go_wp2_with fail
      go_ret
      exact ⟨by rw [HR.out, show calmR c = true by unfold calmR; simp [*]]; rfl, N2.out⟩
theorem may_4 (P : DbP z w q bl kb bp bc ck I xs R) (ok : R.Ok z N) (hN : N ≤ 1000) {i : Nat} (hi : i < z.m) (kd co li wo va : Int) (t2 : (kd == 2) = false) (t1 : (kd == 1) = false) (t4 : (kd == 4) = true)  (l o : Nat) (hl : l < z.n) (ho : o < 8) (hli : li = l) (hwo : wo = o) (r : Bool) (hr : r = (calmR (R.core i) && R.ls.getD (l * 8 + o) 0 == va)) :
    Calls Try.prog 29 #[.pointer (some ⟨q, 0, none⟩), .pointer (some ⟨bc, i * 6, none⟩), .agg (evc ⟨kd, co, li, wo, va⟩)] w fun v w' => v = .returned (.bool r) ∧ Chg [] w w' := by
  obtain ⟨x, hx, hcr, hd⟩ := P.core hi
  obtain ⟨n1, n2⟩ := one_new w (.cells (evc ⟨kd, co, li, wo, va⟩) 41)
  have P1 := P.keep n2 (by simp)
  have D1 := Lib.hid (hd.keep n2 (by simp))
  have N2 := Lib.hid n2
  have HR := Lib.hid hr
  obtain ⟨hcs, hcs2⟩ := ok.core i
  obtain ⟨c0, c1, c2, c3, c4, c5⟩ := ci_cells hx
  have dp := fun (t : TypeId) (f : Nat × Nat) => (ci_part hx t f).1
  have di := fun (t : TypeId) (f : Nat × Nat) => (ci_part hx t f).2
  have hb1 := P1.hc
  have hq1 := P1.hq
  have hl1 := P1.hl
  have hp1 := P1.hp
  unfold dbc at hq1
  rw [hd.n] at c0
  rw [hd.k] at c1
  rw [hd.st] at c2
  rw [hd.lk] at c3
  rw [hd.pl] at c4 c5 dp
  generalize hcc : R.core i = c at *
  have tL : ((c.L.length : Int) == 0) = c.L.isEmpty := by cases c.L <;> simp; omega
  have tS : ((c.S.length : Int) == 0) = c.S.isEmpty := by cases c.S <;> simp; omega
  have gL : (c.L.length : Int) ≤ 1000 := by omega
  have gS : (c.S.length : Int) ≤ 1000 := by omega
  have HX := Lib.hid hx
  clear n2 hd P hcr hr
  subst hli hwo
  have hls := ok.ls
  have hwd := bk_word (xs := R.ls) (k := l * 8 + o) (by omega) []
  have e0 : (0 : Int) ≤ (l : Int) := by omega
  have e1 : (l : Int) < (z.n : Int) := by omega
  have e2 : (0 : Int) ≤ (o : Int) := by omega
  have e3 : (o : Int) < 8 := by omega
  generalize hW : R.ls.getD (l * 8 + o) 0 = W0 at *
  generalize hve : (W0 == va) = ve at *
  go_enter Try.func29, Try.ntmps29
  try dsimp only [List.append]
  go_upto_region 1 with fail
  generalize w.alloc (.cells (evc ⟨kd, co, (l : Int), (o : Int), va⟩) 41) = w1 at *
  generalize w.heap.size = p at *
  cases hbL : c.L.isEmpty
  · rw [hbL] at tL
    go_upto_region 10 with fail
    go_quiet (fail)
    go_wp2_with fail
    go_ret
    exact ⟨by rw [HR.out, show calmR c = false by unfold calmR; simp [*]]; rfl, N2.out.drewN _⟩
  · rw [hbL] at tL
    cases hbS : c.S.isEmpty
    · rw [hbS] at tS
      go_upto_region 10 with fail
      go_quiet (fail)
      go_wp2_with fail
      go_ret
      exact ⟨by rw [HR.out, show calmR c = false by unfold calmR; simp [*]]; rfl, N2.out.drewN _⟩
    · rw [hbS] at tS
      go_upto_region 10 with fail
      go_quiet (fail)
      go_wp2_with fail
      go_ret
      exact ⟨by rw [HR.out, show calmR c = true by unfold calmR; simp [*]]; rfl, N2.out.drewN _⟩
theorem may_2 (P : DbP z w q bl kb bp bc ck I xs R) (ok : R.Ok z N) (hN : N ≤ 1000) {i : Nat} (hi : i < z.m) (kd co li wo va : Int) (t2 : (kd == 2) = true)  (l o : Nat) (hli : li = l) (hwo : wo = o) (r : Bool) (hr : r = (ownR (R.core i).L l o == some va)) :
    Calls Try.prog 29 #[.pointer (some ⟨q, 0, none⟩), .pointer (some ⟨bc, i * 6, none⟩), .agg (evc ⟨kd, co, li, wo, va⟩)] w fun v w' => v = .returned (.bool r) ∧ Chg [] w w' := by
  obtain ⟨x, hx, hcr, hd⟩ := P.core hi
  obtain ⟨n1, n2⟩ := one_new w (.cells (evc ⟨kd, co, li, wo, va⟩) 41)
  have P1 := P.keep n2 (by simp)
  have D1 := Lib.hid (hd.keep n2 (by simp))
  have N2 := Lib.hid n2
  have HR := Lib.hid hr
  obtain ⟨hcs, hcs2⟩ := ok.core i
  obtain ⟨c0, c1, c2, c3, c4, c5⟩ := ci_cells hx
  have dp := fun (t : TypeId) (f : Nat × Nat) => (ci_part hx t f).1
  have di := fun (t : TypeId) (f : Nat × Nat) => (ci_part hx t f).2
  have hb1 := P1.hc
  have hq1 := P1.hq
  have hl1 := P1.hl
  have hp1 := P1.hp
  unfold dbc at hq1
  rw [hd.n] at c0
  rw [hd.k] at c1
  rw [hd.st] at c2
  rw [hd.lk] at c3
  rw [hd.pl] at c4 c5 dp
  generalize hcc : R.core i = c at *
  have tL : ((c.L.length : Int) == 0) = c.L.isEmpty := by cases c.L <;> simp; omega
  have tS : ((c.S.length : Int) == 0) = c.S.isEmpty := by cases c.S <;> simp; omega
  have gL : (c.L.length : Int) ≤ 1000 := by omega
  have gS : (c.S.length : Int) ≤ 1000 := by omega
  have HX := Lib.hid hx
  clear n2 hd P hcr hr
  subst hli hwo
  obtain ⟨v, f, hv, hf, ho⟩ : ∃ (v : Int) (f : Bool), v = (ownR c.L l o).getD 0 ∧ f = (ownR c.L l o).isSome ∧ (f && v == va) = (ownR c.L l o == some va) := by
    cases ownR c.L l o with
    | none => exact ⟨0, false, rfl, rfl, rfl⟩
    | some y => exact ⟨y, true, rfl, rfl, by simp⟩
  generalize hve : (v == va) = ve at *
  have HV := Lib.hid hv
  have HF := Lib.hid hf
  have HO := Lib.hid ho
  clear hv hf ho
  go_enter Try.func29, Try.ntmps29
  try dsimp only [List.append]
  go_upto_region 1 with fail
  generalize w.alloc (.cells (evc ⟨kd, co, (l : Int), (o : Int), va⟩) 41) = w1 at *
  generalize w.heap.size = p at *
  cases hbL : c.L.isEmpty
  · rw [hbL] at tL
    go_upto_region 5 with (go_at_call 39; refine (rown_any hb1 HX.out D1.out (by omega) l o v f HV.out HF.out).mono ?_; rintro e w3 ⟨rfl, c9⟩; have n3 := c9.keep n1 List.not_mem_nil; have C3 := Lib.hid (N2.out.trans c9); clear c9)
    cases f
    · go_wp2_with fail
      go_ret
      exact ⟨by rw [HR.out, ← HO.out]; rfl, C3.out⟩
    · go_wp2_with fail
      go_ret
      exact ⟨by rw [HR.out, ← HO.out]; rfl, C3.out⟩
  · rw [hbL] at tL
    cases hbS : c.S.isEmpty
    · rw [hbS] at tS
      go_upto_region 5 with (go_at_call 39; refine (rown_any hb1 HX.out D1.out (by omega) l o v f HV.out HF.out).mono ?_; rintro e w3 ⟨rfl, c9⟩; have n3 := c9.keep n1 List.not_mem_nil; have C3 := Lib.hid (N2.out.trans c9); clear c9)
      cases f
      · go_wp2_with fail
        go_ret
        exact ⟨by rw [HR.out, ← HO.out]; rfl, C3.out⟩
      · go_wp2_with fail
        go_ret
        exact ⟨by rw [HR.out, ← HO.out]; rfl, C3.out⟩
    · rw [hbS] at tS
      go_upto_region 5 with (go_at_call 39; refine (rown_any hb1 HX.out D1.out (by omega) l o v f HV.out HF.out).mono ?_; rintro e w3 ⟨rfl, c9⟩; have n3 := c9.keep n1 List.not_mem_nil; have C3 := Lib.hid (N2.out.trans c9); clear c9)
      cases f
      · go_wp2_with fail
        go_ret
        exact ⟨by rw [HR.out, ← HO.out]; rfl, C3.out⟩
      · go_wp2_with fail
        go_ret
        exact ⟨by rw [HR.out, ← HO.out]; rfl, C3.out⟩
theorem may_1 (P : DbP z w q bl kb bp bc ck I xs R) (ok : R.Ok z N) (hN : N ≤ 1000) {i : Nat} (hi : i < z.m) (kd co li wo va : Int) (t2 : (kd == 2) = false) (t1 : (kd == 1) = true)  (l o : Nat) (hl : l < z.n) (ho : o < 8) (hli : li = l) (hwo : wo = o) (r : Bool) (hr : r = ((ownR (R.core i).L l o).isNone && R.ls.getD (l * 8 + o) 0 == va)) :
    Calls Try.prog 29 #[.pointer (some ⟨q, 0, none⟩), .pointer (some ⟨bc, i * 6, none⟩), .agg (evc ⟨kd, co, li, wo, va⟩)] w fun v w' => v = .returned (.bool r) ∧ Chg [] w w' := by
  obtain ⟨x, hx, hcr, hd⟩ := P.core hi
  obtain ⟨n1, n2⟩ := one_new w (.cells (evc ⟨kd, co, li, wo, va⟩) 41)
  have P1 := P.keep n2 (by simp)
  have D1 := Lib.hid (hd.keep n2 (by simp))
  have N2 := Lib.hid n2
  have HR := Lib.hid hr
  obtain ⟨hcs, hcs2⟩ := ok.core i
  obtain ⟨c0, c1, c2, c3, c4, c5⟩ := ci_cells hx
  have dp := fun (t : TypeId) (f : Nat × Nat) => (ci_part hx t f).1
  have di := fun (t : TypeId) (f : Nat × Nat) => (ci_part hx t f).2
  have hb1 := P1.hc
  have hq1 := P1.hq
  have hl1 := P1.hl
  have hp1 := P1.hp
  unfold dbc at hq1
  rw [hd.n] at c0
  rw [hd.k] at c1
  rw [hd.st] at c2
  rw [hd.lk] at c3
  rw [hd.pl] at c4 c5 dp
  generalize hcc : R.core i = c at *
  have tL : ((c.L.length : Int) == 0) = c.L.isEmpty := by cases c.L <;> simp; omega
  have tS : ((c.S.length : Int) == 0) = c.S.isEmpty := by cases c.S <;> simp; omega
  have gL : (c.L.length : Int) ≤ 1000 := by omega
  have gS : (c.S.length : Int) ≤ 1000 := by omega
  have HX := Lib.hid hx
  clear n2 hd P hcr hr
  subst hli hwo
  have hls := ok.ls
  have hwd := bk_word (xs := R.ls) (k := l * 8 + o) (by omega) []
  have e0 : (0 : Int) ≤ (l : Int) := by omega
  have e1 : (l : Int) < (z.n : Int) := by omega
  have e2 : (0 : Int) ≤ (o : Int) := by omega
  have e3 : (o : Int) < 8 := by omega
  generalize hW : R.ls.getD (l * 8 + o) 0 = W0 at *
  obtain ⟨v, f, hv, hf, ho⟩ : ∃ (v : Int) (f : Bool), v = (ownR c.L l o).getD 0 ∧ f = (ownR c.L l o).isSome ∧ (!f) = (ownR c.L l o).isNone := by
    cases ownR c.L l o with
    | none => exact ⟨0, false, rfl, rfl, rfl⟩
    | some y => exact ⟨y, true, rfl, rfl, rfl⟩
  generalize hve : (W0 == va) = ve at *
  have HV := Lib.hid hv
  have HF := Lib.hid hf
  have HO := Lib.hid ho
  clear hv hf ho
  go_enter Try.func29, Try.ntmps29
  try dsimp only [List.append]
  go_upto_region 1 with fail
  generalize w.alloc (.cells (evc ⟨kd, co, (l : Int), (o : Int), va⟩) 41) = w1 at *
  generalize w.heap.size = p at *
  cases hbL : c.L.isEmpty
  · rw [hbL] at tL
    go_upto_region 8 with (go_at_call 39; refine (rown_any hb1 HX.out D1.out (by omega) l o v f HV.out HF.out).mono ?_; rintro e w3 ⟨rfl, c9⟩; have n3 := c9.keep n1 List.not_mem_nil; have l3 := c9.keep hl1 List.not_mem_nil; have q3 := c9.keep hq1 List.not_mem_nil; have C3 := Lib.hid (N2.out.trans c9); clear c9)
    cases f
    · go_quiet (fail)
      go_wp2_with fail
      go_ret
      exact ⟨by rw [HR.out, ← HO.out]; rfl, C3.out.drewN _⟩
    · go_quiet (fail)
      go_wp2_with fail
      go_ret
      exact ⟨by rw [HR.out, ← HO.out]; rfl, C3.out.drewN _⟩
  · rw [hbL] at tL
    cases hbS : c.S.isEmpty
    · rw [hbS] at tS
      go_upto_region 8 with (go_at_call 39; refine (rown_any hb1 HX.out D1.out (by omega) l o v f HV.out HF.out).mono ?_; rintro e w3 ⟨rfl, c9⟩; have n3 := c9.keep n1 List.not_mem_nil; have l3 := c9.keep hl1 List.not_mem_nil; have q3 := c9.keep hq1 List.not_mem_nil; have C3 := Lib.hid (N2.out.trans c9); clear c9)
      cases f
      · go_quiet (fail)
        go_wp2_with fail
        go_ret
        exact ⟨by rw [HR.out, ← HO.out]; rfl, C3.out.drewN _⟩
      · go_quiet (fail)
        go_wp2_with fail
        go_ret
        exact ⟨by rw [HR.out, ← HO.out]; rfl, C3.out.drewN _⟩
    · rw [hbS] at tS
      go_upto_region 8 with (go_at_call 39; refine (rown_any hb1 HX.out D1.out (by omega) l o v f HV.out HF.out).mono ?_; rintro e w3 ⟨rfl, c9⟩; have n3 := c9.keep n1 List.not_mem_nil; have l3 := c9.keep hl1 List.not_mem_nil; have q3 := c9.keep hq1 List.not_mem_nil; have C3 := Lib.hid (N2.out.trans c9); clear c9)
      cases f
      · go_quiet (fail)
        go_wp2_with fail
        go_ret
        exact ⟨by rw [HR.out, ← HO.out]; rfl, C3.out.drewN _⟩
      · go_quiet (fail)
        go_wp2_with fail
        go_ret
        exact ⟨by rw [HR.out, ← HO.out]; rfl, C3.out.drewN _⟩
end
end Go.Proofs.Ytnocekhgabgffaa
end
section
namespace Go.Proofs.Ytnocekhgabgffaa
open Go.RowKit
set_option linter.unusedVariables false
set_option maxHeartbeats 1000000

set_option maxRecDepth 100000
attribute [local go_sem ↓] append_appS copy_copS clear_clrS make_mkS slice_slS lookup_lookS mput_mputS del_mdelS cell_row frozen_row heap_drew heap_drewN heap_alloc heap_past heap_setCell heap_putRow heap_setB loadEv storeEv loadBe storeBe loadSp storeSp loadNw storeNw loadLine storeLine evc_kd evc_co evc_li evc_wo evc_va bec_fl bec_li bec_wo bec_va nwC_0 nwC_1 spC_0 spC_1
attribute [local go_sem] rowCell_some rowFrozen_some rowHas_some rowIn_some rowPart_full rowPart_lit rowPut_full rowPut_lit rowSet_some size_putRow size_setB run_loadS run_storeS run_appS run_copS run_clrS run_mkS run_slS run_lookS run_mputS run_mdelS loadW_at storeW_at fit_all fit_le one_int one_bool one_pointer one_slice allOne_list putRow_new ne_size1 ne_size2 ne_size3 ne_size4 wideEv wideBe wideSp wideNw wideLine evc_size evc_one evc_ne evc_lit evc_z fold_evc bec_size bec_one bec_lit bec_ne bec_at bec_in spC_size spC_one nwC_size nwC_one nwC_ne nwC_set0 nwC_set1 nwC_lit bec_set0 bec_set1 bec_set2 bec_set3 spC_set0 spC_set1 spC_lit fold_spC spC_ne fold_nwC fold_bec fold_at vs_size vs_one ic_size ic_get
attribute [local simp ↓] heap_drew heap_drewN heap_alloc heap_past heap_setCell heap_putRow heap_setB
attribute [local simp] rowCell_some rowFrozen_some rowHas_some rowIn_some rowPart_full rowPart_lit rowPut_full rowPut_lit rowSet_some size_putRow size_setB fit_all putRow_new ne_size1 ne_size2 ne_size3 ne_size4 evc_size bec_size spC_size nwC_size vs_size fit_le
attribute [local go_sem ↓] loadIt storeIt loadSn storeSn loadPl storePl
attribute [local go_sem] wideIt wideSn widePl
section
variable {z : Cf} {w w' : World} {q bl kb bp bc ck : Nat} {I : List Nat} {xs : List Ci} {R : Rb} {N : Nat}
theorem may_6 (P : DbP z w q bl kb bp bc ck I xs R) (ok : R.Ok z N) (hN : N ≤ 1000) {i : Nat} (hi : i < z.m) (kd co li wo va : Int) (t2 : (kd == 2) = false) (t1 : (kd == 1) = false) (t4 : (kd == 4) = false) (t7 : (kd == 7) = false) (t3 : (kd == 3) = false) (t13 : (kd == 13) = false) (t6 : (kd == 6) = true)  (l : Nat) (hl : l < z.n) (hli : li = l) (r : Bool) (hr : r = (match sentI (R.core i).S l with | none => false | some k => decide (((R.core i).S.getD k (0, 0)).2 < R.ps.getD l 0))) :
    Calls Try.prog 29 #[.pointer (some ⟨q, 0, none⟩), .pointer (some ⟨bc, i * 6, none⟩), .agg (evc ⟨kd, co, li, wo, va⟩)] w fun v w' => v = .returned (.bool r) ∧ Chg [] w w' := by
  obtain ⟨x, hx, hcr, hd⟩ := P.core hi
  obtain ⟨n1, n2⟩ := one_new w (.cells (evc ⟨kd, co, li, wo, va⟩) 41)
  have P1 := P.keep n2 (by simp)
  have D1 := Lib.hid (hd.keep n2 (by simp))
  have N2 := Lib.hid n2
  have HR := Lib.hid hr
  obtain ⟨hcs, hcs2⟩ := ok.core i
  obtain ⟨c0, c1, c2, c3, c4, c5⟩ := ci_cells hx
  have dp := fun (t : TypeId) (f : Nat × Nat) => (ci_part hx t f).1
  have di := fun (t : TypeId) (f : Nat × Nat) => (ci_part hx t f).2
  have hb1 := P1.hc
  have hq1 := P1.hq
  have hl1 := P1.hl
  have hp1 := P1.hp
  unfold dbc at hq1
  rw [hd.n] at c0
  rw [hd.k] at c1
  rw [hd.st] at c2
  rw [hd.lk] at c3
  rw [hd.pl] at c4 c5 dp
  generalize hcc : R.core i = c at *
  have tL : ((c.L.length : Int) == 0) = c.L.isEmpty := by cases c.L <;> simp; omega
  have tS : ((c.S.length : Int) == 0) = c.S.isEmpty := by cases c.S <;> simp; omega
  have gL : (c.L.length : Int) ≤ 1000 := by omega
  have gS : (c.S.length : Int) ≤ 1000 := by omega
  have HX := Lib.hid hx
  clear n2 hd P hcr hr
  subst hli
  have hps := ok.ps
  have hpn := ic_num (xs := R.ps) (k := l) (by omega)
  generalize ic R.ps = PA at *
  clear hps
  have e0 : (0 : Int) ≤ (l : Int) := by omega
  have e1 : (l : Int) < (z.n : Int) := by omega
  generalize hP : R.ps.getD l 0 = P0 at *
  go_enter Try.func29, Try.ntmps29
  try dsimp only [List.append]
  go_upto_region 1 with fail
  generalize w.alloc (.cells (evc ⟨kd, co, (l : Int), wo, va⟩) 41) = w1 at *
  generalize w.heap.size = p at *
  cases hbL : c.L.isEmpty
  · rw [hbL] at tL
    cases hsi : sentI c.S l with
    | none =>
      have HSV := Lib.hid (show (-1 : Int) = sentV c.S l by unfold sentV; rw [hsi])
      rw [hsi] at HR
      go_upto_region 19 with (go_at_call 41; refine (rsent_any hb1 HX.out D1.out (by omega) l (-1) HSV.out).mono ?_; rintro e w3 ⟨rfl, c9⟩; have n3 := c9.keep n1 List.not_mem_nil; have b3 := c9.keep hb1 List.not_mem_nil; have p3 := c9.keep hp1 List.not_mem_nil; have q3 := c9.keep hq1 List.not_mem_nil; have D3 := Lib.hid (D1.out.keep c9 (fun _ _ => List.not_mem_nil)); have C3 := Lib.hid (N2.out.trans c9); clear c9)
      go_quiet (fail)
      go_wp2_with fail
      go_ret
      exact ⟨by rw [HR.out]; rfl, C3.out.drewN _⟩
    | some k =>
      have HSV := Lib.hid (show (k : Int) = sentV c.S l by unfold sentV; rw [hsi])
      rw [hsi] at HR
      have hkl : k < c.S.length := by
        obtain ⟨A, pp, B, hS, hA, _⟩ := sentI_some hsi
        rw [hS, ← hA]; simp
      obtain ⟨y, hy⟩ : ∃ y, c.S[k]? = some y := ⟨_, List.getElem?_eq_getElem hkl⟩
      have hgd : c.S.getD k (0, 0) = y := by rw [List.getD_eq_getElem?_getD, hy]; rfl
      dsimp only at HR
      rw [hgd] at HR
      have g0 : (0 : Int) ≤ (k : Int) := by omega
      have g1 : (k : Int) < (c.S.length : Int) := by omega
      have HY := Lib.hid hy
      have HKL := Lib.hid hkl
      clear hsi hgd hy hkl
      go_upto_region 19 with (go_at_call 41; refine (rsent_any hb1 HX.out D1.out (by omega) l k HSV.out).mono ?_; rintro e w3 ⟨rfl, c9⟩; have n3 := c9.keep n1 List.not_mem_nil; have b3 := c9.keep hb1 List.not_mem_nil; have p3 := c9.keep hp1 List.not_mem_nil; have q3 := c9.keep hq1 List.not_mem_nil; have D3 := Lib.hid (D1.out.keep c9 (fun _ _ => List.not_mem_nil)); have C3 := Lib.hid (N2.out.trans c9); clear c9)
      obtain ⟨ba, oa, hA⟩ := D3.out.hB.addr (by rw [D3.out.k]; have := HKL.out; omega)
      have hsl := D3.out.hB
      rw [hA] at hsl c1
      obtain ⟨cs, ty, ff, he, hii, _⟩ := hsl.elem (i := k) (ys := snE y) (by omega) (by rw [D3.out.k]; have := HKL.out; omega) (cat_part snE_len HY.out)
      have i1 : cs[oa + k * 2 + 1]? = some (.int .i64 y.2) := hii 1 (by omega)
      clear hsl hii
      generalize hnS : c.S.length = nS at *
      have X1 : ∀ x : Aft w3.heap.size w3, x.w.heap[p]? = some (.cells (evc ⟨kd, co, (l : Int), wo, va⟩) 41 (0, 0)) := fun x => (x.block (old n3).lt).trans n3
      have X2 : ∀ x : Aft w3.heap.size w3, x.w.heap[bc]? = some (.cells (sq Ci.enc xs []) 82 (0, 0)) := fun x => (x.block (old b3).lt).trans b3
      have X3 : ∀ x : Aft w3.heap.size w3, x.w.heap[bp]? = some (.cells PA 3 (0, 0)) := fun x => (x.block (old p3).lt).trans p3
      have X4 := fun x : Aft w3.heap.size w3 => (x.block (old q3).lt).trans q3
      have X5 := fun x : Aft w3.heap.size w3 => (x.block (old he).lt).trans he
      clear n3 b3 p3 q3 he hb1 hq1 hl1 hp1 n1 P1
      by_cases hgt : y.2 < P0
      · rw [show decide (y.2 < P0) = true by simpa using hgt] at HR
        refine wp_region_aft w3.heap.size (by kernel_rfl) (by kernel_rfl) ?_
        repeat (go_big_quiet_step (fail))
        refine wpQuiet_nil ?_
        rintro _ ⟨x9, rfl⟩
        go_wp2_with fail
        go_ret
        exact ⟨by rw [HR.out]; rfl, C3.out.trans (Below.chg x9.below (Nat.le_refl _))⟩
      · rw [show decide (y.2 < P0) = false by simpa using hgt] at HR
        refine wp_region_aft w3.heap.size (by kernel_rfl) (by kernel_rfl) ?_
        repeat (go_big_quiet_step (fail))
        refine wpQuiet_nil ?_
        rintro _ ⟨x9, rfl⟩
        go_wp2_with fail
        go_ret
        exact ⟨by rw [HR.out]; rfl, C3.out.trans (Below.chg x9.below (Nat.le_refl _))⟩
  · rw [hbL] at tL
    cases hbS : c.S.isEmpty
    · rw [hbS] at tS
      cases hsi : sentI c.S l with
      | none =>
        have HSV := Lib.hid (show (-1 : Int) = sentV c.S l by unfold sentV; rw [hsi])
        rw [hsi] at HR
        go_upto_region 19 with (go_at_call 41; refine (rsent_any hb1 HX.out D1.out (by omega) l (-1) HSV.out).mono ?_; rintro e w3 ⟨rfl, c9⟩; have n3 := c9.keep n1 List.not_mem_nil; have b3 := c9.keep hb1 List.not_mem_nil; have p3 := c9.keep hp1 List.not_mem_nil; have q3 := c9.keep hq1 List.not_mem_nil; have D3 := Lib.hid (D1.out.keep c9 (fun _ _ => List.not_mem_nil)); have C3 := Lib.hid (N2.out.trans c9); clear c9)
        go_quiet (fail)
        go_wp2_with fail
        go_ret
        exact ⟨by rw [HR.out]; rfl, C3.out.drewN _⟩
      | some k =>
        have HSV := Lib.hid (show (k : Int) = sentV c.S l by unfold sentV; rw [hsi])
        rw [hsi] at HR
        have hkl : k < c.S.length := by
          obtain ⟨A, pp, B, hS, hA, _⟩ := sentI_some hsi
          rw [hS, ← hA]; simp
        obtain ⟨y, hy⟩ : ∃ y, c.S[k]? = some y := ⟨_, List.getElem?_eq_getElem hkl⟩
        have hgd : c.S.getD k (0, 0) = y := by rw [List.getD_eq_getElem?_getD, hy]; rfl
        dsimp only at HR
        rw [hgd] at HR
        have g0 : (0 : Int) ≤ (k : Int) := by omega
        have g1 : (k : Int) < (c.S.length : Int) := by omega
        have HY := Lib.hid hy
        have HKL := Lib.hid hkl
        clear hsi hgd hy hkl
        go_upto_region 19 with (go_at_call 41; refine (rsent_any hb1 HX.out D1.out (by omega) l k HSV.out).mono ?_; rintro e w3 ⟨rfl, c9⟩; have n3 := c9.keep n1 List.not_mem_nil; have b3 := c9.keep hb1 List.not_mem_nil; have p3 := c9.keep hp1 List.not_mem_nil; have q3 := c9.keep hq1 List.not_mem_nil; have D3 := Lib.hid (D1.out.keep c9 (fun _ _ => List.not_mem_nil)); have C3 := Lib.hid (N2.out.trans c9); clear c9)
        obtain ⟨ba, oa, hA⟩ := D3.out.hB.addr (by rw [D3.out.k]; have := HKL.out; omega)
        have hsl := D3.out.hB
        rw [hA] at hsl c1
        obtain ⟨cs, ty, ff, he, hii, _⟩ := hsl.elem (i := k) (ys := snE y) (by omega) (by rw [D3.out.k]; have := HKL.out; omega) (cat_part snE_len HY.out)
        have i1 : cs[oa + k * 2 + 1]? = some (.int .i64 y.2) := hii 1 (by omega)
        clear hsl hii
        generalize hnS : c.S.length = nS at *
        have X1 : ∀ x : Aft w3.heap.size w3, x.w.heap[p]? = some (.cells (evc ⟨kd, co, (l : Int), wo, va⟩) 41 (0, 0)) := fun x => (x.block (old n3).lt).trans n3
        have X2 : ∀ x : Aft w3.heap.size w3, x.w.heap[bc]? = some (.cells (sq Ci.enc xs []) 82 (0, 0)) := fun x => (x.block (old b3).lt).trans b3
        have X3 : ∀ x : Aft w3.heap.size w3, x.w.heap[bp]? = some (.cells PA 3 (0, 0)) := fun x => (x.block (old p3).lt).trans p3
        have X4 := fun x : Aft w3.heap.size w3 => (x.block (old q3).lt).trans q3
        have X5 := fun x : Aft w3.heap.size w3 => (x.block (old he).lt).trans he
        clear n3 b3 p3 q3 he hb1 hq1 hl1 hp1 n1 P1
        by_cases hgt : y.2 < P0
        · rw [show decide (y.2 < P0) = true by simpa using hgt] at HR
          refine wp_region_aft w3.heap.size (by kernel_rfl) (by kernel_rfl) ?_
          repeat (go_big_quiet_step (fail))
          refine wpQuiet_nil ?_
          rintro _ ⟨x9, rfl⟩
          go_wp2_with fail
          go_ret
          exact ⟨by rw [HR.out]; rfl, C3.out.trans (Below.chg x9.below (Nat.le_refl _))⟩
        · rw [show decide (y.2 < P0) = false by simpa using hgt] at HR
          refine wp_region_aft w3.heap.size (by kernel_rfl) (by kernel_rfl) ?_
          repeat (go_big_quiet_step (fail))
          refine wpQuiet_nil ?_
          rintro _ ⟨x9, rfl⟩
          go_wp2_with fail
          go_ret
          exact ⟨by rw [HR.out]; rfl, C3.out.trans (Below.chg x9.below (Nat.le_refl _))⟩
    · rw [hbS] at tS
      cases hsi : sentI c.S l with
      | none =>
        have HSV := Lib.hid (show (-1 : Int) = sentV c.S l by unfold sentV; rw [hsi])
        rw [hsi] at HR
        go_upto_region 19 with (go_at_call 41; refine (rsent_any hb1 HX.out D1.out (by omega) l (-1) HSV.out).mono ?_; rintro e w3 ⟨rfl, c9⟩; have n3 := c9.keep n1 List.not_mem_nil; have b3 := c9.keep hb1 List.not_mem_nil; have p3 := c9.keep hp1 List.not_mem_nil; have q3 := c9.keep hq1 List.not_mem_nil; have D3 := Lib.hid (D1.out.keep c9 (fun _ _ => List.not_mem_nil)); have C3 := Lib.hid (N2.out.trans c9); clear c9)
        go_quiet (fail)
        go_wp2_with fail
        go_ret
        exact ⟨by rw [HR.out]; rfl, C3.out.drewN _⟩
      | some k =>
        have HSV := Lib.hid (show (k : Int) = sentV c.S l by unfold sentV; rw [hsi])
        rw [hsi] at HR
        have hkl : k < c.S.length := by
          obtain ⟨A, pp, B, hS, hA, _⟩ := sentI_some hsi
          rw [hS, ← hA]; simp
        obtain ⟨y, hy⟩ : ∃ y, c.S[k]? = some y := ⟨_, List.getElem?_eq_getElem hkl⟩
        have hgd : c.S.getD k (0, 0) = y := by rw [List.getD_eq_getElem?_getD, hy]; rfl
        dsimp only at HR
        rw [hgd] at HR
        have g0 : (0 : Int) ≤ (k : Int) := by omega
        have g1 : (k : Int) < (c.S.length : Int) := by omega
        have HY := Lib.hid hy
        have HKL := Lib.hid hkl
        clear hsi hgd hy hkl
        go_upto_region 19 with (go_at_call 41; refine (rsent_any hb1 HX.out D1.out (by omega) l k HSV.out).mono ?_; rintro e w3 ⟨rfl, c9⟩; have n3 := c9.keep n1 List.not_mem_nil; have b3 := c9.keep hb1 List.not_mem_nil; have p3 := c9.keep hp1 List.not_mem_nil; have q3 := c9.keep hq1 List.not_mem_nil; have D3 := Lib.hid (D1.out.keep c9 (fun _ _ => List.not_mem_nil)); have C3 := Lib.hid (N2.out.trans c9); clear c9)
        obtain ⟨ba, oa, hA⟩ := D3.out.hB.addr (by rw [D3.out.k]; have := HKL.out; omega)
        have hsl := D3.out.hB
        rw [hA] at hsl c1
        obtain ⟨cs, ty, ff, he, hii, _⟩ := hsl.elem (i := k) (ys := snE y) (by omega) (by rw [D3.out.k]; have := HKL.out; omega) (cat_part snE_len HY.out)
        have i1 : cs[oa + k * 2 + 1]? = some (.int .i64 y.2) := hii 1 (by omega)
        clear hsl hii
        generalize hnS : c.S.length = nS at *
        have X1 : ∀ x : Aft w3.heap.size w3, x.w.heap[p]? = some (.cells (evc ⟨kd, co, (l : Int), wo, va⟩) 41 (0, 0)) := fun x => (x.block (old n3).lt).trans n3
        have X2 : ∀ x : Aft w3.heap.size w3, x.w.heap[bc]? = some (.cells (sq Ci.enc xs []) 82 (0, 0)) := fun x => (x.block (old b3).lt).trans b3
        have X3 : ∀ x : Aft w3.heap.size w3, x.w.heap[bp]? = some (.cells PA 3 (0, 0)) := fun x => (x.block (old p3).lt).trans p3
        have X4 := fun x : Aft w3.heap.size w3 => (x.block (old q3).lt).trans q3
        have X5 := fun x : Aft w3.heap.size w3 => (x.block (old he).lt).trans he
        clear n3 b3 p3 q3 he hb1 hq1 hl1 hp1 n1 P1
        by_cases hgt : y.2 < P0
        · rw [show decide (y.2 < P0) = true by simpa using hgt] at HR
          refine wp_region_aft w3.heap.size (by kernel_rfl) (by kernel_rfl) ?_
          repeat (go_big_quiet_step (fail))
          refine wpQuiet_nil ?_
          rintro _ ⟨x9, rfl⟩
          go_wp2_with fail
          go_ret
          exact ⟨by rw [HR.out]; rfl, C3.out.trans (Below.chg x9.below (Nat.le_refl _))⟩
        · rw [show decide (y.2 < P0) = false by simpa using hgt] at HR
          refine wp_region_aft w3.heap.size (by kernel_rfl) (by kernel_rfl) ?_
          repeat (go_big_quiet_step (fail))
          refine wpQuiet_nil ?_
          rintro _ ⟨x9, rfl⟩
          go_wp2_with fail
          go_ret
          exact ⟨by rw [HR.out]; rfl, C3.out.trans (Below.chg x9.below (Nat.le_refl _))⟩
end
end Go.Proofs.Ytnocekhgabgffaa
end
section
namespace Go.Proofs.Ytnocekhgabgffaa
open Go.RowKit
set_option linter.unusedVariables false
set_option maxHeartbeats 1000000

set_option maxRecDepth 100000
attribute [local go_sem ↓] append_appS copy_copS clear_clrS make_mkS slice_slS lookup_lookS mput_mputS del_mdelS cell_row frozen_row heap_drew heap_drewN heap_alloc heap_past heap_setCell heap_putRow heap_setB loadEv storeEv loadBe storeBe loadSp storeSp loadNw storeNw loadLine storeLine evc_kd evc_co evc_li evc_wo evc_va bec_fl bec_li bec_wo bec_va nwC_0 nwC_1 spC_0 spC_1
attribute [local go_sem] rowCell_some rowFrozen_some rowHas_some rowIn_some rowPart_full rowPart_lit rowPut_full rowPut_lit rowSet_some size_putRow size_setB run_loadS run_storeS run_appS run_copS run_clrS run_mkS run_slS run_lookS run_mputS run_mdelS loadW_at storeW_at fit_all fit_le one_int one_bool one_pointer one_slice allOne_list putRow_new ne_size1 ne_size2 ne_size3 ne_size4 wideEv wideBe wideSp wideNw wideLine evc_size evc_one evc_ne evc_lit evc_z fold_evc bec_size bec_one bec_lit bec_ne bec_at bec_in spC_size spC_one nwC_size nwC_one nwC_ne nwC_set0 nwC_set1 nwC_lit bec_set0 bec_set1 bec_set2 bec_set3 spC_set0 spC_set1 spC_lit fold_spC spC_ne fold_nwC fold_bec fold_at vs_size vs_one ic_size ic_get
attribute [local simp ↓] heap_drew heap_drewN heap_alloc heap_past heap_setCell heap_putRow heap_setB
attribute [local simp] rowCell_some rowFrozen_some rowHas_some rowIn_some rowPart_full rowPart_lit rowPut_full rowPut_lit rowSet_some size_putRow size_setB fit_all putRow_new ne_size1 ne_size2 ne_size3 ne_size4 evc_size bec_size spC_size nwC_size vs_size fit_le
attribute [local go_sem ↓] loadIt storeIt loadSn storeSn loadPl storePl
attribute [local go_sem] wideIt wideSn widePl
section
variable {z : Cf} {w w' : World} {q bl kb bp bc ck : Nat} {I : List Nat} {xs : List Ci} {R : Rb} {N : Nat}
theorem may_13 (P : DbP z w q bl kb bp bc ck I xs R) (ok : R.Ok z N) (hN : N ≤ 1000) {i : Nat} (hi : i < z.m) (kd co li wo va : Int) (t2 : (kd == 2) = false) (t1 : (kd == 1) = false) (t4 : (kd == 4) = false) (t7 : (kd == 7) = false) (t3 : (kd == 3) = false) (t13 : (kd == 13) = true)  (r : Bool) (hr : r = firstR (R.core i) ⟨true, li, 0, 0⟩) :
    Calls Try.prog 29 #[.pointer (some ⟨q, 0, none⟩), .pointer (some ⟨bc, i * 6, none⟩), .agg (evc ⟨kd, co, li, wo, va⟩)] w fun v w' => v = .returned (.bool r) ∧ Chg [] w w' := by
  obtain ⟨x, hx, hcr, hd⟩ := P.core hi
  obtain ⟨n1, n2⟩ := one_new w (.cells (evc ⟨kd, co, li, wo, va⟩) 41)
  have P1 := P.keep n2 (by simp)
  have D1 := Lib.hid (hd.keep n2 (by simp))
  have N2 := Lib.hid n2
  have HR := Lib.hid hr
  obtain ⟨hcs, hcs2⟩ := ok.core i
  obtain ⟨c0, c1, c2, c3, c4, c5⟩ := ci_cells hx
  have dp := fun (t : TypeId) (f : Nat × Nat) => (ci_part hx t f).1
  have di := fun (t : TypeId) (f : Nat × Nat) => (ci_part hx t f).2
  have hb1 := P1.hc
  have hq1 := P1.hq
  have hl1 := P1.hl
  have hp1 := P1.hp
  unfold dbc at hq1
  rw [hd.n] at c0
  rw [hd.k] at c1
  rw [hd.st] at c2
  rw [hd.lk] at c3
  rw [hd.pl] at c4 c5 dp
  generalize hcc : R.core i = c at *
  have tL : ((c.L.length : Int) == 0) = c.L.isEmpty := by cases c.L <;> simp; omega
  have tS : ((c.S.length : Int) == 0) = c.S.isEmpty := by cases c.S <;> simp; omega
  have gL : (c.L.length : Int) ≤ 1000 := by omega
  have gS : (c.S.length : Int) ≤ 1000 := by omega
  have HX := Lib.hid hx
  clear n2 hd P hcr hr
  go_enter Try.func29, Try.ntmps29
  try dsimp only [List.append]
  go_upto_region 1 with fail
  generalize w.alloc (.cells (evc ⟨kd, co, li, wo, va⟩) 41) = w1 at *
  generalize w.heap.size = p at *
  cases hbL : c.L.isEmpty
  · rw [hbL] at tL
    go_wp2_with (go_at_call 40; refine (rfirst_any hb1 HX.out D1.out (by omega) ⟨true, li, 0, 0⟩).mono ?_; rintro e w3 ⟨rfl, c9⟩; have C3 := Lib.hid (N2.out.trans c9); clear c9)
    go_ret
    exact ⟨by rw [HR.out]; rfl, C3.out⟩
  · rw [hbL] at tL
    cases hbS : c.S.isEmpty
    · rw [hbS] at tS
      go_wp2_with (go_at_call 40; refine (rfirst_any hb1 HX.out D1.out (by omega) ⟨true, li, 0, 0⟩).mono ?_; rintro e w3 ⟨rfl, c9⟩; have C3 := Lib.hid (N2.out.trans c9); clear c9)
      go_ret
      exact ⟨by rw [HR.out]; rfl, C3.out⟩
    · rw [hbS] at tS
      go_wp2_with (go_at_call 40; refine (rfirst_any hb1 HX.out D1.out (by omega) ⟨true, li, 0, 0⟩).mono ?_; rintro e w3 ⟨rfl, c9⟩; have C3 := Lib.hid (N2.out.trans c9); clear c9)
      go_ret
      exact ⟨by rw [HR.out]; rfl, C3.out⟩
theorem may_3 (P : DbP z w q bl kb bp bc ck I xs R) (ok : R.Ok z N) (hN : N ≤ 1000) {i : Nat} (hi : i < z.m) (kd co li wo va : Int) (t2 : (kd == 2) = false) (t1 : (kd == 1) = false) (t4 : (kd == 4) = false) (t7 : (kd == 7) = false) (t3 : (kd == 3) = true)  (r : Bool) (hr : r = (firstR (R.core i) ⟨false, li, wo, va⟩ || ((R.core i).lk && (decide ((R.core i).pl.1 = li) && decide ((R.core i).pl.2 = wo))))) :
    Calls Try.prog 29 #[.pointer (some ⟨q, 0, none⟩), .pointer (some ⟨bc, i * 6, none⟩), .agg (evc ⟨kd, co, li, wo, va⟩)] w fun v w' => v = .returned (.bool r) ∧ Chg [] w w' := by
  obtain ⟨x, hx, hcr, hd⟩ := P.core hi
  obtain ⟨n1, n2⟩ := one_new w (.cells (evc ⟨kd, co, li, wo, va⟩) 41)
  have P1 := P.keep n2 (by simp)
  have D1 := Lib.hid (hd.keep n2 (by simp))
  have N2 := Lib.hid n2
  have HR := Lib.hid hr
  obtain ⟨hcs, hcs2⟩ := ok.core i
  obtain ⟨c0, c1, c2, c3, c4, c5⟩ := ci_cells hx
  have dp := fun (t : TypeId) (f : Nat × Nat) => (ci_part hx t f).1
  have di := fun (t : TypeId) (f : Nat × Nat) => (ci_part hx t f).2
  have hb1 := P1.hc
  have hq1 := P1.hq
  have hl1 := P1.hl
  have hp1 := P1.hp
  unfold dbc at hq1
  rw [hd.n] at c0
  rw [hd.k] at c1
  rw [hd.st] at c2
  rw [hd.lk] at c3
  rw [hd.pl] at c4 c5 dp
  generalize hcc : R.core i = c at *
  have tL : ((c.L.length : Int) == 0) = c.L.isEmpty := by cases c.L <;> simp; omega
  have tS : ((c.S.length : Int) == 0) = c.S.isEmpty := by cases c.S <;> simp; omega
  have gL : (c.L.length : Int) ≤ 1000 := by omega
  have gS : (c.S.length : Int) ≤ 1000 := by omega
  have HX := Lib.hid hx
  clear n2 hd P hcr hr
  have hpe := fun w => pl_eq c.pl.1 c.pl.2 li wo w
  obtain ⟨ff, hff⟩ : ∃ ff, ff = firstR c ⟨false, li, wo, va⟩ := ⟨_, rfl⟩
  generalize hpd : (decide (c.pl.1 = li) && decide (c.pl.2 = wo)) = pd at *
  generalize hlk : c.lk = lk at *
  have HFF := Lib.hid hff
  clear hff hpd hlk
  go_enter Try.func29, Try.ntmps29
  try dsimp only [List.append]
  go_upto_region 1 with fail
  generalize w.alloc (.cells (evc ⟨kd, co, li, wo, va⟩) 41) = w1 at *
  generalize w.heap.size = p at *
  cases hbL : c.L.isEmpty
  · rw [hbL] at tL
    go_upto_region 14 with fail
    have hxn : ∀ x : Aft w1.heap.size w1, x.w.heap[p]? = some (.cells (evc ⟨kd, co, li, wo, va⟩) 41 (0, 0)) := fun x => (x.block (old n1).lt).trans n1
    have hxb : ∀ x : Aft w1.heap.size w1, x.w.heap[bc]? = some (.cells (sq Ci.enc xs []) 82 (0, 0)) := fun x => (x.block (old hb1).lt).trans hb1
    have HXD := Lib.hid (show ∀ y : Aft w1.heap.size w1, DcM y.w x I c from fun y => D1.out.keep (Below.chg y.below (Nat.le_refl _)) (fun _ _ => List.not_mem_nil))
    cases ff
    · have HFV := Lib.hid (show false = firstR c ⟨false, li, wo, va⟩ from HFF.out)
      have HFC := Lib.hid (show ∀ y : Aft w1.heap.size w1, Calls Try.prog 40 #[.pointer (some ⟨bc, i * 6, none⟩), .agg (bec ⟨false, li, wo, va⟩)] y.w fun e w' => e = .returned (.bool false) ∧ Chg [] y.w w' from fun y => by have h0 := rfirst_any (hxb y) HX.out (HXD.out y) (by omega) ⟨false, li, wo, va⟩; rw [← HFV.out] at h0; exact h0)
      rw [← HFV.out] at HR
      cases lk
      · refine wp_region_aft w1.heap.size (by kernel_rfl) (by kernel_rfl) ?_
        repeat (go_big_quiet_step (first | (go_at_call 40; exact calls_aft_chg18 (Nat.le_refl _) (HFC.out _))))
        refine wpQuiet_nil ?_
        rintro _ ⟨y, rfl⟩
        go_wp2_with fail
        go_ret
        exact ⟨by rw [HR.out]; rfl, N2.out.trans (Below.chg y.below (Nat.le_refl _))⟩
      · cases pd
        · refine wp_region_aft w1.heap.size (by kernel_rfl) (by kernel_rfl) ?_
          repeat (go_big_quiet_step (first | (go_at_call 40; exact calls_aft_chg18 (Nat.le_refl _) (HFC.out _))))
          refine wpQuiet_nil ?_
          rintro _ ⟨y, rfl⟩
          go_wp2_with fail
          go_ret
          exact ⟨by rw [HR.out]; rfl, N2.out.trans (Below.chg y.below (Nat.le_refl _))⟩
        · refine wp_region_aft w1.heap.size (by kernel_rfl) (by kernel_rfl) ?_
          repeat (go_big_quiet_step (first | (go_at_call 40; exact calls_aft_chg18 (Nat.le_refl _) (HFC.out _))))
          refine wpQuiet_nil ?_
          rintro _ ⟨y, rfl⟩
          go_wp2_with fail
          go_ret
          exact ⟨by rw [HR.out]; rfl, N2.out.trans (Below.chg y.below (Nat.le_refl _))⟩
    · have HFV := Lib.hid (show true = firstR c ⟨false, li, wo, va⟩ from HFF.out)
      have HFC := Lib.hid (show ∀ y : Aft w1.heap.size w1, Calls Try.prog 40 #[.pointer (some ⟨bc, i * 6, none⟩), .agg (bec ⟨false, li, wo, va⟩)] y.w fun e w' => e = .returned (.bool true) ∧ Chg [] y.w w' from fun y => by have h0 := rfirst_any (hxb y) HX.out (HXD.out y) (by omega) ⟨false, li, wo, va⟩; rw [← HFV.out] at h0; exact h0)
      rw [← HFV.out] at HR
      refine wp_region_aft w1.heap.size (by kernel_rfl) (by kernel_rfl) ?_
      repeat (go_big_quiet_step (first | (go_at_call 40; exact calls_aft_chg18 (Nat.le_refl _) (HFC.out _))))
      refine wpQuiet_nil ?_
      rintro _ ⟨y, rfl⟩
      go_wp2_with fail
      go_ret
      exact ⟨by rw [HR.out]; rfl, N2.out.trans (Below.chg y.below (Nat.le_refl _))⟩
  · rw [hbL] at tL
    cases hbS : c.S.isEmpty
    · rw [hbS] at tS
      go_upto_region 14 with fail
      have hxn : ∀ x : Aft w1.heap.size w1, x.w.heap[p]? = some (.cells (evc ⟨kd, co, li, wo, va⟩) 41 (0, 0)) := fun x => (x.block (old n1).lt).trans n1
      have hxb : ∀ x : Aft w1.heap.size w1, x.w.heap[bc]? = some (.cells (sq Ci.enc xs []) 82 (0, 0)) := fun x => (x.block (old hb1).lt).trans hb1
      have HXD := Lib.hid (show ∀ y : Aft w1.heap.size w1, DcM y.w x I c from fun y => D1.out.keep (Below.chg y.below (Nat.le_refl _)) (fun _ _ => List.not_mem_nil))
      cases ff
      · have HFV := Lib.hid (show false = firstR c ⟨false, li, wo, va⟩ from HFF.out)
        have HFC := Lib.hid (show ∀ y : Aft w1.heap.size w1, Calls Try.prog 40 #[.pointer (some ⟨bc, i * 6, none⟩), .agg (bec ⟨false, li, wo, va⟩)] y.w fun e w' => e = .returned (.bool false) ∧ Chg [] y.w w' from fun y => by have h0 := rfirst_any (hxb y) HX.out (HXD.out y) (by omega) ⟨false, li, wo, va⟩; rw [← HFV.out] at h0; exact h0)
        rw [← HFV.out] at HR
        cases lk
        · refine wp_region_aft w1.heap.size (by kernel_rfl) (by kernel_rfl) ?_
          repeat (go_big_quiet_step (first | (go_at_call 40; exact calls_aft_chg18 (Nat.le_refl _) (HFC.out _))))
          refine wpQuiet_nil ?_
          rintro _ ⟨y, rfl⟩
          go_wp2_with fail
          go_ret
          exact ⟨by rw [HR.out]; rfl, N2.out.trans (Below.chg y.below (Nat.le_refl _))⟩
        · cases pd
          · refine wp_region_aft w1.heap.size (by kernel_rfl) (by kernel_rfl) ?_
            repeat (go_big_quiet_step (first | (go_at_call 40; exact calls_aft_chg18 (Nat.le_refl _) (HFC.out _))))
            refine wpQuiet_nil ?_
            rintro _ ⟨y, rfl⟩
            go_wp2_with fail
            go_ret
            exact ⟨by rw [HR.out]; rfl, N2.out.trans (Below.chg y.below (Nat.le_refl _))⟩
          · refine wp_region_aft w1.heap.size (by kernel_rfl) (by kernel_rfl) ?_
            repeat (go_big_quiet_step (first | (go_at_call 40; exact calls_aft_chg18 (Nat.le_refl _) (HFC.out _))))
            refine wpQuiet_nil ?_
            rintro _ ⟨y, rfl⟩
            go_wp2_with fail
            go_ret
            exact ⟨by rw [HR.out]; rfl, N2.out.trans (Below.chg y.below (Nat.le_refl _))⟩
      · have HFV := Lib.hid (show true = firstR c ⟨false, li, wo, va⟩ from HFF.out)
        have HFC := Lib.hid (show ∀ y : Aft w1.heap.size w1, Calls Try.prog 40 #[.pointer (some ⟨bc, i * 6, none⟩), .agg (bec ⟨false, li, wo, va⟩)] y.w fun e w' => e = .returned (.bool true) ∧ Chg [] y.w w' from fun y => by have h0 := rfirst_any (hxb y) HX.out (HXD.out y) (by omega) ⟨false, li, wo, va⟩; rw [← HFV.out] at h0; exact h0)
        rw [← HFV.out] at HR
        refine wp_region_aft w1.heap.size (by kernel_rfl) (by kernel_rfl) ?_
        repeat (go_big_quiet_step (first | (go_at_call 40; exact calls_aft_chg18 (Nat.le_refl _) (HFC.out _))))
        refine wpQuiet_nil ?_
        rintro _ ⟨y, rfl⟩
        go_wp2_with fail
        go_ret
        exact ⟨by rw [HR.out]; rfl, N2.out.trans (Below.chg y.below (Nat.le_refl _))⟩
    · rw [hbS] at tS
      go_upto_region 14 with fail
      have hxn : ∀ x : Aft w1.heap.size w1, x.w.heap[p]? = some (.cells (evc ⟨kd, co, li, wo, va⟩) 41 (0, 0)) := fun x => (x.block (old n1).lt).trans n1
      have hxb : ∀ x : Aft w1.heap.size w1, x.w.heap[bc]? = some (.cells (sq Ci.enc xs []) 82 (0, 0)) := fun x => (x.block (old hb1).lt).trans hb1
      have HXD := Lib.hid (show ∀ y : Aft w1.heap.size w1, DcM y.w x I c from fun y => D1.out.keep (Below.chg y.below (Nat.le_refl _)) (fun _ _ => List.not_mem_nil))
      cases ff
      · have HFV := Lib.hid (show false = firstR c ⟨false, li, wo, va⟩ from HFF.out)
        have HFC := Lib.hid (show ∀ y : Aft w1.heap.size w1, Calls Try.prog 40 #[.pointer (some ⟨bc, i * 6, none⟩), .agg (bec ⟨false, li, wo, va⟩)] y.w fun e w' => e = .returned (.bool false) ∧ Chg [] y.w w' from fun y => by have h0 := rfirst_any (hxb y) HX.out (HXD.out y) (by omega) ⟨false, li, wo, va⟩; rw [← HFV.out] at h0; exact h0)
        rw [← HFV.out] at HR
        cases lk
        · refine wp_region_aft w1.heap.size (by kernel_rfl) (by kernel_rfl) ?_
          repeat (go_big_quiet_step (first | (go_at_call 40; exact calls_aft_chg18 (Nat.le_refl _) (HFC.out _))))
          refine wpQuiet_nil ?_
          rintro _ ⟨y, rfl⟩
          go_wp2_with fail
          go_ret
          exact ⟨by rw [HR.out]; rfl, N2.out.trans (Below.chg y.below (Nat.le_refl _))⟩
        · cases pd
          · refine wp_region_aft w1.heap.size (by kernel_rfl) (by kernel_rfl) ?_
            repeat (go_big_quiet_step (first | (go_at_call 40; exact calls_aft_chg18 (Nat.le_refl _) (HFC.out _))))
            refine wpQuiet_nil ?_
            rintro _ ⟨y, rfl⟩
            go_wp2_with fail
            go_ret
            exact ⟨by rw [HR.out]; rfl, N2.out.trans (Below.chg y.below (Nat.le_refl _))⟩
          · refine wp_region_aft w1.heap.size (by kernel_rfl) (by kernel_rfl) ?_
            repeat (go_big_quiet_step (first | (go_at_call 40; exact calls_aft_chg18 (Nat.le_refl _) (HFC.out _))))
            refine wpQuiet_nil ?_
            rintro _ ⟨y, rfl⟩
            go_wp2_with fail
            go_ret
            exact ⟨by rw [HR.out]; rfl, N2.out.trans (Below.chg y.below (Nat.le_refl _))⟩
      · have HFV := Lib.hid (show true = firstR c ⟨false, li, wo, va⟩ from HFF.out)
        have HFC := Lib.hid (show ∀ y : Aft w1.heap.size w1, Calls Try.prog 40 #[.pointer (some ⟨bc, i * 6, none⟩), .agg (bec ⟨false, li, wo, va⟩)] y.w fun e w' => e = .returned (.bool true) ∧ Chg [] y.w w' from fun y => by have h0 := rfirst_any (hxb y) HX.out (HXD.out y) (by omega) ⟨false, li, wo, va⟩; rw [← HFV.out] at h0; exact h0)
        rw [← HFV.out] at HR
        refine wp_region_aft w1.heap.size (by kernel_rfl) (by kernel_rfl) ?_
        repeat (go_big_quiet_step (first | (go_at_call 40; exact calls_aft_chg18 (Nat.le_refl _) (HFC.out _))))
        refine wpQuiet_nil ?_
        rintro _ ⟨y, rfl⟩
        go_wp2_with fail
        go_ret
        exact ⟨by rw [HR.out]; rfl, N2.out.trans (Below.chg y.below (Nat.le_refl _))⟩
end
end Go.Proofs.Ytnocekhgabgffaa
end
section
namespace Go.Proofs.Ytnocekhgabgffaa
open Go.RowKit
set_option linter.unusedVariables false
set_option maxHeartbeats 1000000

set_option maxRecDepth 100000
attribute [local go_sem ↓] append_appS copy_copS clear_clrS make_mkS slice_slS lookup_lookS mput_mputS del_mdelS cell_row frozen_row heap_drew heap_drewN heap_alloc heap_past heap_setCell heap_putRow heap_setB loadEv storeEv loadBe storeBe loadSp storeSp loadNw storeNw loadLine storeLine evc_kd evc_co evc_li evc_wo evc_va bec_fl bec_li bec_wo bec_va nwC_0 nwC_1 spC_0 spC_1
attribute [local go_sem] rowCell_some rowFrozen_some rowHas_some rowIn_some rowPart_full rowPart_lit rowPut_full rowPut_lit rowSet_some size_putRow size_setB run_loadS run_storeS run_appS run_copS run_clrS run_mkS run_slS run_lookS run_mputS run_mdelS loadW_at storeW_at fit_all fit_le one_int one_bool one_pointer one_slice allOne_list putRow_new ne_size1 ne_size2 ne_size3 ne_size4 wideEv wideBe wideSp wideNw wideLine evc_size evc_one evc_ne evc_lit evc_z fold_evc bec_size bec_one bec_lit bec_ne bec_at bec_in spC_size spC_one nwC_size nwC_one nwC_ne nwC_set0 nwC_set1 nwC_lit bec_set0 bec_set1 bec_set2 bec_set3 spC_set0 spC_set1 spC_lit fold_spC spC_ne fold_nwC fold_bec fold_at vs_size vs_one ic_size ic_get
attribute [local simp ↓] heap_drew heap_drewN heap_alloc heap_past heap_setCell heap_putRow heap_setB
attribute [local simp] rowCell_some rowFrozen_some rowHas_some rowIn_some rowPart_full rowPart_lit rowPut_full rowPut_lit rowSet_some size_putRow size_setB fit_all putRow_new ne_size1 ne_size2 ne_size3 ne_size4 evc_size bec_size spC_size nwC_size vs_size fit_le
attribute [local go_sem ↓] loadCf storeCf
attribute [local go_sem] wideCf lit8
section
variable {z : Cf} {w w' : World} {q bl kb bp bc ck : Nat} {I : List Nat} {xs : List Ci} {R : Rb} {N : Nat}
/-- Other lines. -/
theorem DbP.setL {X : List Int} (h : DbP z w q bl kb bp bc ck I xs R) (hc : Chg [bl] w w') (hl : w'.heap[bl]? = some (.cells (bk X []) 44 (0, 0))) : DbP z w' q bl kb bp bc ck I xs { R with ls := X } := by
  obtain ⟨r, hr⟩ := h.hk
  have nd := h.nd
  simp only [List.nodup_cons, List.mem_cons, List.not_mem_nil, or_false, not_or, List.nodup_nil, not_false_eq_true, and_true] at nd
  obtain ⟨⟨a1, a2, a3, a4⟩, ⟨b2, b3, b4⟩, ⟨c3, c4⟩, d4⟩ := nd
  have hI : ∀ y ∈ I, y ∉ [bl] := fun y hy h2 => h.iF y hy (by simp only [List.mem_singleton] at h2; simp [h2])
  exact ⟨hc.keep h.hq (by simpa using a1), hl, ⟨r, hc.keep hr (by simpa using Ne.symm b2)⟩, hc.keep h.hp (by simpa using Ne.symm b3), hc.keep h.hc (by simpa using Ne.symm b4), h.lx, h.lc, fun i x c h1 h2 => (h.co i x c h1 h2).keep hc hI, h.nd, h.iF, fun y hy => Nat.lt_of_lt_of_le (h.iO y hy) hc.size⟩
theorem rfail_any (P : DbP z w q bl kb bp bc ck I xs R) (ok : R.Ok z N) :
    Calls Try.prog 28 #[.pointer (some ⟨q, 0, none⟩)] w fun v w' => v = .returned (.tuple #[]) ∧ ∃ bc', DbP z w' q bl kb bp bc' ck [] (List.replicate z.m ciZ) R.fail ∧ Chg [q, bl] w w' ∧ w.heap.size ≤ bc' := by
  have HP := Lib.hid P
  have hn := ok.n64
  have hvn := ok.vn
  have hm8 := ok.m8
  have OK := Lib.hid ok
  have hq0 := P.hq
  unfold dbc at hq0
  go_enter Try.func28, Try.ntmps28
  go_wp2_with fail
  clear hq0
  go_loopw [2] (fun i wr => ∃ (j : Nat) (X : List Int), j ≤ z.n ∧ i = .int .i64 j ∧ X.length = z.n * 8 ∧ (∀ l, l < j → ln X l = if l < z.v then zln else ln R.ks l) ∧ DbP z wr q bl kb bp bc ck I xs { R with ls := X } ∧ Chg [bl] w wr) (fun i _ => z.n - (intOf i).toNat)
  case atStart => exact ⟨0, R.ls, Nat.zero_le _, rfl, ok.ls, fun l h => absurd h (by omega), HP.out, Chg.refl _ _⟩
  case round =>
    clear P
    obtain ⟨j, X, hj, rfl, hX, hl, P, hc⟩ := hrel
    have XL := Lib.hid hX
    have LS := Lib.hid hl
    have PJ := Lib.hid P
    have HC := Lib.hid hc
    have hq := P.hq
    unfold dbc at hq
    have hbl := P.hl
    simp only at hbl
    obtain ⟨r, hbk⟩ := P.hk
    simp only at hbk
    by_cases hlt : j < z.n
    · have g0 : (0 : Int) ≤ (j : Int) := by omega
      have g1 : (j : Int) < (z.n : Int) := by omega
      have hks := ok.ks
      have ft1 : Fit (j * 8) 8 R.ks.length := by unfold Fit; omega
      have ft2 : Fit (j * 8) 8 X.length := by unfold Fit; omega
      have hl8 := ln_length _ _ ft1
      have q1 := fun f => rowIn_bk ft1 r 44 f
      have q2 := fun f => rowPart_bk ft1 r 44 f
      have q3 := rowHas_bk ft2 [] 44
      have q4 := fun f => rowPut_bk (xs := X) (l := ln R.ks j) (i := j) (by rw [hl8]; exact ft2) [] 44 f
      have hc8 : (vs (ln R.ks j)).size = 8 := by rw [vs_size, hl8]
      have HC8 := Lib.hid hc8
      have FT := Lib.hid ft2
      have HL8 := Lib.hid hl8
      have JN := Lib.hid hlt
      clear ok P hc hl ft1 ft2 hl8 hlt hj hX
      go_upto_region 3 with fail
      go_region
      have f1 : (putRow wr.drew bl (j * 8) (vs (ln R.ks j))).heap[bl]? = some (.cells (bk (lnPut X j (ln R.ks j)) []) 44 (0, 0)) := by rw [heap_putRow _ _ _ _ _ (by rw [HC8.out, heap_drew, hbl]; exact q3), if_pos rfl, heap_drew, hbl, q4]
      have cf : Chg [bl] wr (putRow wr.drew bl (j * 8) (vs (ln R.ks j))) := (Chg.refl [bl] wr).drew.putRow _ _ _ (.inl (by simp))
      have P2 := Lib.hid (PJ.out.setL cf f1)
      have C2 := Lib.hid (HC.out.trans cf)
      clear hbl hbk q1 q2 q3 q4 hc8 hq cf
      generalize putRow wr.drew bl (j * 8) (vs (ln R.ks j)) = w2 at *
      have hq2 := P2.out.hq
      unfold dbc at hq2
      have hX2 : (lnPut X j (ln R.ks j)).length = z.n * 8 := by rw [lnPut_length _ _ _ FT.out HL8.out, XL.out]
      have X2 := Lib.hid hX2
      by_cases hjv : j < z.v
      · have g2 : (j : Int) < (z.v : Int) := by omega
        have ft3 : Fit (j * 8) 8 (lnPut X j (ln R.ks j)).length := by have := FT.out.out; have := XL.out; unfold Fit; omega
        have q5 := rowHas_bk ft3 [] 44
        have q6 := fun f => rowPut_bk (xs := lnPut X j (ln R.ks j)) (l := zln) (i := j) ft3 [] 44 f
        have JV := Lib.hid hjv
        clear hX2 ft3 hjv
        have hz8 : (vs zln).size = 8 := rfl
        have f3 : (putRow w2 bl (j * 8) (vs zln)).heap[bl]? = some (.cells (bk (lnPut (lnPut X j (ln R.ks j)) j zln) []) 44 (0, 0)) := by rw [heap_putRow _ _ _ _ _ (by rw [hz8, f1]; exact q5), if_pos rfl, f1, q6]
        have cf : Chg [bl] w2 (putRow w2 bl (j * 8) (vs zln)) := (Chg.refl [bl] w2).putRow _ _ _ (.inl (by simp))
        have P3 := Lib.hid (P2.out.setL cf f3)
        have C3 := Lib.hid (C2.out.trans cf)
        clear f3 cf hz8
        go_wp2_with fail
        go_roundw
        case measure =>
          show z.n - ((j : Int) + 1).toNat < z.n - ((j : Int)).toNat
          have := JN.out
          omega
        case rel =>
          have ft3 : Fit (j * 8) 8 (lnPut X j (ln R.ks j)).length := by have := FT.out.out; have := X2.out; have := XL.out; unfold Fit; omega
          refine ⟨j + 1, lnPut (lnPut X j (ln R.ks j)) j zln, JN.out, by go_num, by rw [lnPut_length _ _ _ ft3 rfl, X2.out], fun l hl => ?_, P3.out, C3.out⟩
          by_cases hlj : l = j
          · subst hlj; rw [ln_put_same _ _ _ ft3 rfl, if_pos JV.out]
          · rw [ln_put_other _ _ _ _ ft3 rfl (Ne.symm hlj), ln_put_other _ _ _ _ FT.out HL8.out (Ne.symm hlj)]
            exact LS.out l (by omega)
      · have g2 : ¬ (j : Int) < (z.v : Int) := by omega
        have JV := Lib.hid hjv
        clear hX2 hjv
        go_wp2_with fail
        go_roundw
        case measure =>
          show z.n - ((j : Int) + 1).toNat < z.n - ((j : Int)).toNat
          have := JN.out
          omega
        case rel =>
          refine ⟨j + 1, lnPut X j (ln R.ks j), JN.out, by go_num, X2.out, fun l hl => ?_, P2.out, C2.out⟩
          by_cases hlj : l = j
          · subst hlj; rw [ln_put_same _ _ _ FT.out HL8.out, if_neg JV.out]
          · rw [ln_put_other _ _ _ _ FT.out HL8.out (Ne.symm hlj)]
            exact LS.out l (by omega)
    · obtain rfl : j = z.n := by omega
      have g1 : ¬ (z.n : Int) < (z.n : Int) := by omega
      have hf : forget R.ks R.vol = X := by
        rw [ok.vol]
        refine lines_ext (n := z.n) (by rw [forget_length _ _ (by rw [ok.ks]; omega), ok.ks]) XL.out (fun l hl => ?_)
        rw [LS.out l hl]
        split
        · rename_i h; exact ln_forget_lt _ _ _ h (by rw [ok.ks]; omega)
        · rename_i h; exact ln_forget_ge _ _ _ (by omega) (by rw [ok.ks]; omega)
      have hmk := fun w => run_make_ci w z.m (by omega)
      have oq := old hq
      have ca : Chg [] wr (wr.alloc (.cells (sq Ci.enc (List.replicate z.m ciZ) []) 82)) := (Chg.refl [] wr).alloc _
      have cs : Chg [q] wr ((wr.alloc (.cells (sq Ci.enc (List.replicate z.m ciZ) []) 82)).setCell ⟨q, 9, none⟩ (.slice (some ⟨wr.heap.size, 0, none⟩) z.m z.m)) := ((Chg.refl [q] wr).alloc _).setCell _ _ _ (.inl (by simp))
      have hb : (wr.alloc (.cells (sq Ci.enc (List.replicate z.m ciZ) []) 82)).heap[wr.heap.size]? = some (.cells (sq Ci.enc (List.replicate z.m ciZ) []) 82 (0, 0)) := (MapKept.heap_alloc wr _).1
      have hqa := ca.keep P.hq List.not_mem_nil
      have HPN : DbP z ((wr.alloc (.cells (sq Ci.enc (List.replicate z.m ciZ) []) 82)).setCell ⟨q, 9, none⟩ (.slice (some ⟨wr.heap.size, 0, none⟩) z.m z.m)) q bl kb bp wr.heap.size ck [] (List.replicate z.m ciZ) R.fail := by
        have nd := P.nd
        have hold := P.old
        simp only [List.nodup_cons, List.mem_cons, List.not_mem_nil, or_false, not_or, List.nodup_nil, not_false_eq_true, and_true] at nd
        obtain ⟨⟨a1, a2, a3, a4⟩, ⟨b2, b3, b4⟩, ⟨c3, c4⟩, d4⟩ := nd
        have o1 := hold q (by simp)
        have o2 := hold bl (by simp)
        have o3 := hold kb (by simp)
        have o4 := hold bp (by simp)
        refine ⟨?_, ?_, ⟨r, cs.keep hbk (by simpa using Ne.symm a2)⟩, cs.keep P.hp (by simpa using Ne.symm a3), ?_, by simp, by simp [Rb.fail, ok.cs], fun i x c h1 h2 => ?_, ?_, by simp, by simp⟩
        · rw [heap_setCell, if_pos rfl, hqa, rowSet_some]; rfl
        · have := cs.keep hbl (by simpa using Ne.symm a1)
          rw [this]
          show some (Obj.cells (bk X []) _ _) = some (Obj.cells (bk (forget R.ks R.vol) []) _ _)
          rw [hf]
        · rw [heap_setCell, if_neg (by omega)]; exact hb
        · obtain ⟨hx, hi⟩ := List.eq_of_mem_replicate (List.mem_of_getElem? h1) |> fun h => (⟨h, trivial⟩ : x = ciZ ∧ True)
          have hc0 : c = rcZ := List.eq_of_mem_replicate (List.mem_of_getElem? h2)
          subst hx hc0
          exact dcm_zero _
        · simp only [List.nodup_cons, List.mem_cons, List.not_mem_nil, or_false, not_or, List.nodup_nil, not_false_eq_true, and_true]
          refine ⟨⟨a1, a2, a3, by omega⟩, ⟨b2, b3, by omega⟩, ⟨c3, by omega⟩, by omega⟩
      have HHPM := Lib.hid HPN
      have HCS := Lib.hid ((HC.out.mono (l' := [q, bl]) (by simp)).trans (cs.mono (by simp)))
      have HGE := Lib.hid HC.out.size
      clear HPN cs ca hb hqa hf hbl hbk ok P hc hl hX
      go_wp2_with fail
      go_end0
      exact ⟨rfl, wr.heap.size, HHPM.out, HCS.out, HGE.out⟩
end
end Go.Proofs.Ytnocekhgabgffaa
end
