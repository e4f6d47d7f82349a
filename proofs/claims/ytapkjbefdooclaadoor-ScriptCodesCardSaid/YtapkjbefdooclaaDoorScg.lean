/- Calls of package script on one act, and the document's: walked. No condition. -/
import Derived.Test.YtapkjbefdooclaaDoorScf
import Derived.Test.YtapkjbefdooclaaDoorOpen
import Derived.Test.YtapkjbefdooclaaDoorArgs
import Derived.Test.YtapkjbefdooclaaDoorChecked
import Derived.Laws.LoneSync
import Derived.Lib.SliceRun
import Derived.Deep.RegionHeld3
import Derived.Deep.RegionWith
import Derived.Laws.StructEq
import Derived.ChangeKeysEq
import Derived.BigQuiet
import Derived.BigRegion
import Derived.Deep.QuietTactic
namespace Go.Proofs.YtapkjbefdooclaaDoor
open Go.RowKit
set_option linter.unusedVariables false
set_option maxHeartbeats 1000000

set_option maxRecDepth 100000
attribute [local go_sem ↓] append_appS copy_copS clear_clrS make_mkS slice_slS index_ixS conv_cvS cell_row frozen_row loadAct storeAct heap_drew heap_drewN heap_alloc heap_past heap_setCell heap_putRow sac_kd sac_co sac_li act_eqIn
attribute [local go_sem] rowCell_some rowFrozen_some rowHas_some rowIn_some rowPart_full rowPart_lit rowPut_full rowPut_lit rowSet_some size_putRow wideAct run_loadS run_storeS run_appS run_copS run_clrS run_mkS run_slS run_ixS run_cvS loadW_at storeW_at fit_all fit_le one_int one_bool one_pointer one_slice allOne_list putRow_new ne_size1 ne_size2 ne_size3 ne_size4 sac_size sac_one fold_sac fold_sac2 str_size sac_lit sac_ne sac_set0 sac_set1 sac_set2
attribute [local simp ↓] heap_drew heap_drewN heap_alloc heap_past heap_setCell heap_putRow
attribute [local simp] rowCell_some rowFrozen_some rowHas_some rowIn_some rowPart_full rowPart_lit rowPut_full rowPut_lit rowSet_some size_putRow fit_all putRow_new ne_size1 ne_size2 ne_size3 ne_size4 sac_size
/-! ### Configurations -/
def cnf (c l : Int) (r : List Int) : Array Value := ((c :: l :: r).map (Value.int .i64)).toArray
theorem cnf_c (c l : Int) (r : List Int) : (cnf c l r)[0]? = some (.int .i64 c) := rfl
theorem cnf_l (c l : Int) (r : List Int) : (cnf c l r)[1]? = some (.int .i64 l) := rfl
theorem index_ix5 (x i : Value) : Instr.index 45 x i = ixS 45 x i := rfl
theorem five_at (k : Nat) (hk : k < 5) (w : World) : ixR Tryd.prog 45 (.agg #[.int .i64 1, .int .i64 2, .int .i64 3, .int .i64 4, .int .i64 5]) (.int .i64 (k : Int)) w = .ok (.int .i64 ((k : Int) + 1)) w := by
  have : k = 0 ∨ k = 1 ∨ k = 2 ∨ k = 3 ∨ k = 4 := by omega
  rcases this with rfl | rfl | rfl | rfl | rfl <;> rfl
attribute [local go_sem ↓] cnf_c cnf_l index_ix5
theorem sround_bad (c l : Int) (r : List Int) (W : World) (h : okR c l = false) : Calls Tryd.prog 15 #[.agg (cnf c l r)] W fun e w' => e = .returned (.slice none 0 0) ∧ Chg [] W w' := by
  have hx : decide (c < 1) = true ∨ (decide (c < 1) = false ∧ decide (8 < c) = true) ∨ (decide (c < 1) = false ∧ decide (8 < c) = false ∧ decide (l < 1) = true) ∨ (decide (c < 1) = false ∧ decide (8 < c) = false ∧ decide (l < 1) = false ∧ decide (64 < l) = true) := by
    simp [okR] at h ⊢; omega
  clear h
  rcases hx with t1 | ⟨t1, t2⟩ | ⟨t1, t2, t3⟩ | ⟨t1, t2, t3, t4⟩
  all_goals
    go_enter Tryd.func15, Tryd.ntmps15
    try dsimp only [List.append]
    go_wp2_with fail
    go_ret
    exact ⟨rfl, (Chg.refl _ _).alloc _⟩
theorem rround_bad (c l : Int) (r : List Int) (W : World) (h : okR c l = false) : Calls Tryd.prog 16 #[.agg (cnf c l r)] W fun e w' => e = .returned (.slice none 0 0) ∧ Chg [] W w' := by
  have hx : decide (c < 1) = true ∨ (decide (c < 1) = false ∧ decide (8 < c) = true) ∨ (decide (c < 1) = false ∧ decide (8 < c) = false ∧ decide (l < 1) = true) ∨ (decide (c < 1) = false ∧ decide (8 < c) = false ∧ decide (l < 1) = false ∧ decide (64 < l) = true) := by
    simp [okR] at h ⊢; omega
  clear h
  rcases hx with t1 | ⟨t1, t2⟩ | ⟨t1, t2, t3⟩ | ⟨t1, t2, t3, t4⟩
  all_goals
    go_enter Tryd.func16, Tryd.ntmps16
    try dsimp only [List.append]
    go_wp2_with fail
    go_ret
    exact ⟨rfl, (Chg.refl _ _).alloc _⟩
theorem rnds_core (c i k : Nat) (hi : i < c) (hk : k < 5) : rnds c (5 * i + (k + 1)) = rnds c (5 * i + k) ++ [⟨(k : Int) + 1, i, 0⟩] := by
  rw [← Nat.add_assoc, rnds_succ, rnd_core c i k hi hk]
theorem toldA_up {W w0 w' : World} {q : Nat} {l : List Sact} {e : Ending} (h0 : Chg [] W w0) (h : ToldA w0 q l e w') : ToldA W q l e w' := by
  obtain ⟨A, c, be, h1, h2, h3, h4⟩ := h
  exact ⟨A, c, be, h1, h2, h3.imp id (fun h => Nat.le_trans h0.size h), h0.trans h4⟩
set_option maxHeartbeats 4000000 in
theorem sround_ok (c l : Nat) (r : List Int) (q : Nat) (W : World) (hq : Old W q) (c1 : 1 ≤ c) (c8 : c ≤ 8) (l1 : 1 ≤ l) (l64 : l ≤ 64) : Calls Tryd.prog 15 #[.agg (cnf c l r)] W (ToldA W q (rnds c (5 * c + 2 * l))) := by
  have t1 : decide ((c : Int) < 1) = false := by simp; omega
  have t2 : decide (8 < (c : Int)) = false := by simp; omega
  have t3 : decide ((l : Int) < 1) = false := by simp; omega
  have t4 : decide (64 < (l : Int)) = false := by simp; omega
  go_enter Tryd.func15, Tryd.ntmps15
  try dsimp only [List.append]
  go_wp2_with fail
  have r0 : (W.alloc (.cells (cnf c l r) 36)).heap[W.heap.size]? = some (.cells (cnf c l r) 36 (0, 0)) := by simp
  have C0 := Lib.hid ((Chg.refl [] W).alloc (.cells (cnf c l r) 36))
  have HQ := Lib.hid (hq.chg C0.out)
  clear hq
  generalize W.heap.size = p at r0 ⊢
  generalize W.alloc (.cells (cnf c l r) 36) = w0 at r0 C0 HQ ⊢
  have HR := Lib.hid r0
  clear t1 t2 t3 t4
  go_loopw [3, 28] (fun o i wr => ∃ (k be cap : Nat) (A' : Option Addr), k ≤ c ∧ i = .int .i64 k ∧ o = .slice A' (5 * k) cap ∧ Vec 3 31 Sact.enc wr q be A' cap (rnds c (5 * k)) ∧ (be = q ∨ w0.heap.size ≤ be) ∧ Chg [] w0 wr) (fun _ i _ => c - (intOf i).toNat)
  case atStart => exact ⟨0, q, 0, none, by omega, rfl, rfl, Vec.nil .., .inl rfl, Chg.refl _ _⟩
  case round =>
    obtain ⟨k, be, cap, A', hk, rfl, rfl, hv, hbe, hc⟩ := hrel
    have HV := Lib.hid hv
    have HBE := Lib.hid hbe
    have HC := Lib.hid hc
    have HK := Lib.hid hk
    clear hv hbe hc hk
    by_cases hlt : k < c
    · have g1 : (k : Int) < (c : Int) := by omega
      have g0 : (0 : Int) ≤ (k : Int) := by omega
      have g2 : (c : Int) ≤ 8 := by omega
      have HLT := Lib.hid hlt
      clear hlt
      go_wp2_with fail
      go_loopw [3, 32] (fun o i wi => ∃ (j be cap : Nat) (A' : Option Addr), j ≤ 5 ∧ i = .int .i64 j ∧ o = .slice A' (5 * k + j) cap ∧ Vec 3 31 Sact.enc wi q be A' cap (rnds c (5 * k + j)) ∧ (be = q ∨ w0.heap.size ≤ be) ∧ Chg [] w0 wi) (fun _ i _ => 5 - (intOf i).toNat)
      case atStart => exact ⟨0, be, cap, A', by omega, rfl, rfl, HV.out, HBE.out, HC.out⟩
      case round =>
        clear HV HBE HC
        obtain ⟨j, be2, cap2, A2, hj, rfl, rfl, hv, hbe, hc⟩ := hrel
        have HV := Lib.hid hv
        have HBE := Lib.hid hbe
        have HC := Lib.hid hc
        clear hv hbe hc
        by_cases hj5 : j < 5
        · have g5 : (j : Int) < 5 := by omega
          have g6 : (0 : Int) ≤ (j : Int) := by omega
          have i0 := five_at j hj5
          have c3 := (Chg.refl [] wr).alloc (.cells (sac ⟨(j : Int) + 1, k, 0⟩) 31)
          have hsl : Sl (wr.alloc (.cells (sac ⟨(j : Int) + 1, k, 0⟩) 31)) 3 (some ⟨wr.heap.size, 0, none⟩) 1 (cat Sact.enc [(⟨(j : Int) + 1, k, 0⟩ : Sact)]) := by rw [cat_one]; exact sl_new _ _ _ _ _ _ rfl rfl
          have hlen := rnds_length c (5 * k + j)
          obtain ⟨be', cp, A3, w4, happ, hv2, hbe2, hc2⟩ := Vec.acc (ty := 22) eltAct (w0 := w0) (HC.out.trans c3) (HV.out.keep c3 (by simp)) HBE.out HQ.out hsl (c := 1) rfl (by rw [hlen]; have := HLT.out; omega) (by rw [hlen]; have := HLT.out; simp only [maxLen]; omega)
          rw [hlen] at happ
          have hv3 := hv2
          rw [← rnds_core c k j HLT.out hj5] at hv3
          have HV2 := Lib.hid hv3
          have HBE2 := Lib.hid hbe2
          have HC2 := Lib.hid hc2
          clear hv2 hv3 hbe2 hc2 hsl c3 hlen
          go_wp2_with fail
          refine ⟨⟨j + 1, be', cp, A3, hj5, by go_num, rfl, HV2.out, HBE2.out, HC2.out⟩, ?_⟩
          simp [intOf]; omega
        · have : j = 5 := by omega
          subst this
          go_wp2_with fail
          go_roundw
          case rel => exact ⟨k + 1, be2, cap2, A2, HLT.out, by go_num, rfl, HV.out, HBE.out, HC.out⟩
          case measure => have := HLT.out; simp [intOf]; omega
    · have : k = c := by have := HK.out; omega
      subst this
      have hr1 := HC.out.keep HR.out (by simp)
      have o1 := old hr1
      go_wp2_with fail
      clear hr1 o1 hlt
      go_loopw [3, 45] (fun o i wr => ∃ (j be cap : Nat) (A' : Option Addr), j ≤ l ∧ i = .int .i64 j ∧ o = .slice A' (5 * k + 2 * j) cap ∧ Vec 3 31 Sact.enc wr q be A' cap (rnds k (5 * k + 2 * j)) ∧ (be = q ∨ w0.heap.size ≤ be) ∧ Chg [] w0 wr) (fun _ i _ => l - (intOf i).toNat)
      case atStart => exact ⟨0, be, cap, A', by omega, rfl, rfl, HV.out, HBE.out, HC.out⟩
      case round =>
        clear HV HBE HC
        obtain ⟨j, be2, cap2, A2, hj, rfl, rfl, hv, hbe, hc⟩ := hrel
        have HV := Lib.hid hv
        have HBE := Lib.hid hbe
        have HC := Lib.hid hc
        have HJ := Lib.hid hj
        clear hv hbe hc hj
        by_cases hjl : j < l
        · have g5 : (j : Int) < (l : Int) := by omega
          have g6 : (0 : Int) ≤ (j : Int) := by omega
          have g7 : (l : Int) ≤ 64 := by omega
          have HJL := Lib.hid hjl
          clear hjl
          have c3 := (Chg.refl [] wr).alloc (.cells (cat Sact.enc [(⟨6, 0, j⟩ : Sact), ⟨9, 0, j⟩]).toArray 31)
          have hsl : Sl (wr.alloc (.cells (cat Sact.enc [(⟨6, 0, j⟩ : Sact), ⟨9, 0, j⟩]).toArray 31)) 3 (some ⟨wr.heap.size, 0, none⟩) 2 (cat Sact.enc [(⟨6, 0, j⟩ : Sact), ⟨9, 0, j⟩]) := sl_new _ _ _ _ _ _ rfl rfl
          have hlen := rnds_length k (5 * k + 2 * j)
          obtain ⟨be', cp, A3, w4, happ, hv2, hbe2, hc2⟩ := Vec.acc (ty := 22) eltAct (w0 := w0) (HC.out.trans c3) (HV.out.keep c3 (by simp)) HBE.out HQ.out hsl (c := 2) rfl (by rw [hlen]; have := HJL.out; omega) (by rw [hlen]; have := HJL.out; simp only [maxLen]; omega)
          rw [hlen] at happ
          rw [← rnds_two] at hv2
          have HV2 := Lib.hid hv2
          have HBE2 := Lib.hid hbe2
          have HC2 := Lib.hid hc2
          clear hv2 hbe2 hc2 hsl c3 hlen
          go_wp2_with fail
          refine ⟨⟨j + 1, be', cp, A3, HJL.out, by go_num, rfl, HV2.out, HBE2.out, HC2.out⟩, ?_⟩
          have := HJL.out
          simp [intOf]; omega
        · have : j = l := by have := HJ.out; omega
          subst this
          have hlen := rnds_length k (5 * k + 2 * j)
          have HLN := Lib.hid hlen
          clear hlen hjl
          go_wp2_with fail
          go_ret
          exact toldA_up C0.out ⟨A2, cap2, be2, by rw [HLN.out]; rfl, HV.out, HBE.out, HC.out⟩
set_option maxHeartbeats 4000000 in
theorem rround_ok (c l : Nat) (r : List Int) (q : Nat) (W : World) (hq : Old W q) (c1 : 1 ≤ c) (c8 : c ≤ 8) (l1 : 1 ≤ l) (l64 : l ≤ 64) : Calls Tryd.prog 16 #[.agg (cnf c l r)] W (ToldA W q (rnds c (5 * c + 2 * l))) := by
  have t1 : decide ((c : Int) < 1) = false := by simp; omega
  have t2 : decide (8 < (c : Int)) = false := by simp; omega
  have t3 : decide ((l : Int) < 1) = false := by simp; omega
  have t4 : decide (64 < (l : Int)) = false := by simp; omega
  go_enter Tryd.func16, Tryd.ntmps16
  try dsimp only [List.append]
  go_wp2_with fail
  have r0 : (W.alloc (.cells (cnf c l r) 36)).heap[W.heap.size]? = some (.cells (cnf c l r) 36 (0, 0)) := by simp
  have C0 := Lib.hid ((Chg.refl [] W).alloc (.cells (cnf c l r) 36))
  have HQ := Lib.hid (hq.chg C0.out)
  clear hq
  generalize W.heap.size = p at r0 ⊢
  generalize W.alloc (.cells (cnf c l r) 36) = w0 at r0 C0 HQ ⊢
  have HR := Lib.hid r0
  clear t1 t2 t3 t4 r0
  go_loopw [3, 4] (fun o i wr => ∃ (k be cap : Nat) (A' : Option Addr), k ≤ c ∧ i = .int .i64 k ∧ o = .slice A' (5 * k) cap ∧ Vec 3 31 Sact.enc wr q be A' cap (rnds c (5 * k)) ∧ (be = q ∨ w0.heap.size ≤ be) ∧ Chg [] w0 wr) (fun _ i _ => c - (intOf i).toNat)
  case atStart => exact ⟨0, q, 0, none, by omega, rfl, rfl, Vec.nil .., .inl rfl, Chg.refl _ _⟩
  case round =>
    obtain ⟨k, be, cap, A', hk, rfl, rfl, hv, hbe, hc⟩ := hrel
    have HV := Lib.hid hv
    have HBE := Lib.hid hbe
    have HC := Lib.hid hc
    have HK := Lib.hid hk
    have hr1 := hc.keep HR.out (by simp)
    have o1 := old hr1
    clear hv hbe hc hk
    by_cases hlt : k < c
    · have g1 : (k : Int) < (c : Int) := by omega
      have g0 : (0 : Int) ≤ (k : Int) := by omega
      have g2 : (c : Int) ≤ 8 := by omega
      have HLT := Lib.hid hlt
      clear hlt
      go_wp2_with fail
      clear hr1 o1
      go_loopw [3, 5] (fun o i wr => ∃ (j be cap : Nat) (A' : Option Addr), j ≤ 5 ∧ i = .int .i64 ((j : Int) + 1) ∧ o = .slice A' (5 * k + j) cap ∧ Vec 3 31 Sact.enc wr q be A' cap (rnds c (5 * k + j)) ∧ (be = q ∨ w0.heap.size ≤ be) ∧ Chg [] w0 wr) (fun _ i _ => 6 - (intOf i).toNat)
      case atStart => exact ⟨0, be, cap, A', by omega, rfl, rfl, HV.out, HBE.out, HC.out⟩
      case round =>
        clear HV HBE HC
        obtain ⟨j, be2, cap2, A2, hj, rfl, rfl, hv, hbe, hc⟩ := hrel
        have HV := Lib.hid hv
        have HBE := Lib.hid hbe
        have HC := Lib.hid hc
        clear hv hbe hc
        by_cases hj5 : j < 5
        · have g5 : (j : Int) + 1 ≤ 5 := by omega
          have g6 : (0 : Int) ≤ (j : Int) := by omega
          have c3 := (Chg.refl [] wr).alloc (.cells (sac ⟨(j : Int) + 1, k, 0⟩) 31)
          have hsl : Sl (wr.alloc (.cells (sac ⟨(j : Int) + 1, k, 0⟩) 31)) 3 (some ⟨wr.heap.size, 0, none⟩) 1 (cat Sact.enc [(⟨(j : Int) + 1, k, 0⟩ : Sact)]) := by rw [cat_one]; exact sl_new _ _ _ _ _ _ rfl rfl
          have hlen := rnds_length c (5 * k + j)
          obtain ⟨be', cp, A3, w4, happ, hv2, hbe2, hc2⟩ := Vec.acc (ty := 22) eltAct (w0 := w0) (HC.out.trans c3) (HV.out.keep c3 (by simp)) HBE.out HQ.out hsl (c := 1) rfl (by rw [hlen]; have := HLT.out; omega) (by rw [hlen]; have := HLT.out; simp only [maxLen]; omega)
          rw [hlen] at happ
          have hv3 := hv2
          rw [← rnds_core c k j HLT.out hj5] at hv3
          have HV2 := Lib.hid hv3
          have HBE2 := Lib.hid hbe2
          have HC2 := Lib.hid hc2
          clear hv2 hv3 hbe2 hc2 hsl c3 hlen
          go_wp2_with fail
          refine ⟨⟨j + 1, be', cp, A3, hj5, by go_num, rfl, HV2.out, HBE2.out, HC2.out⟩, ?_⟩
          simp [intOf]; omega
        · have : j = 5 := by omega
          subst this
          go_wp2_with fail
          go_roundw
          case rel => exact ⟨k + 1, be2, cap2, A2, HLT.out, by go_num, rfl, HV.out, HBE.out, HC.out⟩
          case measure => have := HLT.out; simp [intOf]; omega
    · have : k = c := by have := HK.out; omega
      subst this
      go_wp2_with fail
      clear hr1 o1 hlt
      go_loopw [3, 6] (fun o i wr => ∃ (j be cap : Nat) (A' : Option Addr), j ≤ l ∧ i = .int .i64 j ∧ o = .slice A' (5 * k + 2 * j) cap ∧ Vec 3 31 Sact.enc wr q be A' cap (rnds k (5 * k + 2 * j)) ∧ (be = q ∨ w0.heap.size ≤ be) ∧ Chg [] w0 wr) (fun _ i _ => l - (intOf i).toNat)
      case atStart => exact ⟨0, be, cap, A', by omega, rfl, rfl, HV.out, HBE.out, HC.out⟩
      case round =>
        clear HV HBE HC
        obtain ⟨j, be2, cap2, A2, hj, rfl, rfl, hv, hbe, hc⟩ := hrel
        have HV := Lib.hid hv
        have HBE := Lib.hid hbe
        have HC := Lib.hid hc
        have HJ := Lib.hid hj
        have hr1 := hc.keep HR.out (by simp)
        have o1 := old hr1
        clear hv hbe hc hj
        by_cases hjl : j < l
        · have g5 : (j : Int) < (l : Int) := by omega
          have g6 : (0 : Int) ≤ (j : Int) := by omega
          have g7 : (l : Int) ≤ 64 := by omega
          have HJL := Lib.hid hjl
          clear hjl
          have c3 := (Chg.refl [] wr).alloc (.cells (cat Sact.enc [(⟨6, 0, j⟩ : Sact), ⟨9, 0, j⟩]).toArray 31)
          have hsl : Sl (wr.alloc (.cells (cat Sact.enc [(⟨6, 0, j⟩ : Sact), ⟨9, 0, j⟩]).toArray 31)) 3 (some ⟨wr.heap.size, 0, none⟩) 2 (cat Sact.enc [(⟨6, 0, j⟩ : Sact), ⟨9, 0, j⟩]) := sl_new _ _ _ _ _ _ rfl rfl
          have hlen := rnds_length k (5 * k + 2 * j)
          obtain ⟨be', cp, A3, w4, happ, hv2, hbe2, hc2⟩ := Vec.acc (ty := 22) eltAct (w0 := w0) (HC.out.trans c3) (HV.out.keep c3 (by simp)) HBE.out HQ.out hsl (c := 2) rfl (by rw [hlen]; have := HJL.out; omega) (by rw [hlen]; have := HJL.out; simp only [maxLen]; omega)
          rw [hlen] at happ
          rw [← rnds_two] at hv2
          have HV2 := Lib.hid hv2
          have HBE2 := Lib.hid hbe2
          have HC2 := Lib.hid hc2
          clear hv2 hbe2 hc2 hsl c3 hlen
          go_wp2_with fail
          refine ⟨⟨j + 1, be', cp, A3, HJL.out, by go_num, rfl, HV2.out, HBE2.out, HC2.out⟩, ?_⟩
          have := HJL.out
          simp [intOf]; omega
        · have : j = l := by have := HJ.out; omega
          subst this
          have hlen := rnds_length k (5 * k + 2 * j)
          have HLN := Lib.hid hlen
          clear hlen hjl
          go_wp2_with fail
          go_ret
          exact toldA_up C0.out ⟨A2, cap2, be2, by rw [HLN.out]; rfl, HV.out, HBE.out, HC.out⟩
/-- Both, of any configuration. -/
theorem okR_nat {c l : Int} (h : okR c l = true) : ∃ c' l' : Nat, c = c' ∧ l = l' ∧ 1 ≤ c' ∧ c' ≤ 8 ∧ 1 ≤ l' ∧ l' ≤ 64 := by
  simp only [okR, Bool.and_eq_true, decide_eq_true_eq] at h
  exact ⟨c.toNat, l.toNat, by omega, by omega, by omega, by omega, by omega, by omega⟩
theorem toldA_none {W w' : World} {q : Nat} {e : Ending} (h : e = .returned (.slice none 0 0) ∧ Chg [] W w') : ToldA W q [] e w' :=
  ⟨none, 0, q, h.1, Vec.nil .., .inl rfl, h.2⟩
theorem sround_any (c l : Int) (r : List Int) (q : Nat) (W : World) (hq : Old W q) : Calls Tryd.prog 15 #[.agg (cnf c l r)] W (ToldA W q (rndL c l)) := by
  unfold rndL
  cases h : okR c l
  · exact (sround_bad c l r W h).mono fun e w' h => toldA_none h
  · obtain ⟨c', l', rfl, rfl, h1, h2, h3, h4⟩ := okR_nat h
    exact sround_ok c' l' r q W hq h1 h2 h3 h4
theorem rround_any (c l : Int) (r : List Int) (q : Nat) (W : World) (hq : Old W q) : Calls Tryd.prog 16 #[.agg (cnf c l r)] W (ToldA W q (rndL c l)) := by
  unfold rndL
  cases h : okR c l
  · exact (rround_bad c l r W h).mono fun e w' h => toldA_none h
  · obtain ⟨c', l', rfl, rfl, h1, h2, h3, h4⟩ := okR_nat h
    exact rround_ok c' l' r q W hq h1 h2 h3 h4
end Go.Proofs.YtapkjbefdooclaaDoor
