/- The small calls of package bus: walked. No condition. -/
import Derived.Test.YtnocekhgabgffaaBuy
import Derived.Test.YtnocekhgabgffaaNvmb
import Derived.Test.YtnocekhgabgffaaLines
import Derived.Deep.QuietTactic
import Derived.Deep.RegionHeld3
import Derived.Deep.RegionLaw
import Derived.Deep.RegionWith
import Derived.Deep.Cut
import Derived.Deep.CutBlock
import Derived.Deep.CutRange
import Derived.Deep.DeepCutAuto
import Derived.BigQuiet
import Derived.BigRegion
import Derived.WalkKit
namespace Go.Proofs.Ytnocekhgabgffaa
open Go.RowKit
set_option linter.unusedVariables false
set_option maxHeartbeats 1000000

theorem wideEv : Wide Try.prog 41 5 := ⟨⟨_, Try.underlying41, by rfl⟩, by kernel_rfl⟩
theorem loadEv (x : Value) : Instr.loadAt 41 x = loadS 41 5 x := rfl
theorem storeEv (x y : Value) : Instr.storeAt 41 x y = storeS 41 5 x y := rfl
theorem wideBe : Wide Try.prog 125 4 := ⟨⟨_, Try.underlying125, by rfl⟩, by kernel_rfl⟩
theorem loadBe (x : Value) : Instr.loadAt 125 x = loadS 125 4 x := rfl
theorem storeBe (x y : Value) : Instr.storeAt 125 x y = storeS 125 4 x y := rfl
theorem wideSp : Wide Try.prog 121 2 := ⟨⟨_, Try.underlying121, by rfl⟩, by kernel_rfl⟩
theorem loadSp (x : Value) : Instr.loadAt 121 x = loadS 121 2 x := rfl
theorem storeSp (x y : Value) : Instr.storeAt 121 x y = storeS 121 2 x y := rfl
theorem wideNw : Wide Try.prog 118 2 := ⟨⟨_, Try.underlying118, by rfl⟩, by kernel_rfl⟩
theorem loadNw (x : Value) : Instr.loadAt 118 x = loadS 118 2 x := rfl
theorem storeNw (x y : Value) : Instr.storeAt 118 x y = storeS 118 2 x y := rfl
set_option maxRecDepth 100000
attribute [local go_sem ↓] append_appS copy_copS clear_clrS make_mkS slice_slS lookup_lookS mput_mputS del_mdelS cell_row frozen_row heap_drew heap_drewN heap_alloc heap_past heap_setCell heap_putRow heap_setB loadEv storeEv loadBe storeBe loadSp storeSp loadNw storeNw loadLine storeLine evc_kd evc_co evc_li evc_wo evc_va bec_fl bec_li bec_wo bec_va nwC_0 nwC_1 spC_0 spC_1
attribute [local go_sem] rowCell_some rowFrozen_some rowHas_some rowIn_some rowPart_full rowPart_lit rowPut_full rowPut_lit rowSet_some size_putRow size_setB run_loadS run_storeS run_appS run_copS run_clrS run_mkS run_slS run_lookS run_mputS run_mdelS loadW_at storeW_at fit_all fit_le one_int one_bool one_pointer one_slice allOne_list putRow_new ne_size1 ne_size2 ne_size3 ne_size4 wideEv wideBe wideSp wideNw wideLine evc_size evc_one evc_ne evc_lit evc_z fold_evc bec_size bec_one bec_lit bec_ne bec_at bec_in spC_size spC_one nwC_size nwC_one nwC_ne nwC_set0 nwC_set1 nwC_lit bec_set0 bec_set1 bec_set2 bec_set3 spC_set0 spC_set1 spC_lit fold_spC spC_ne fold_nwC fold_bec fold_at vs_size vs_one ic_size ic_get
attribute [local simp ↓] heap_drew heap_drewN heap_alloc heap_past heap_setCell heap_putRow heap_setB
attribute [local simp] rowCell_some rowFrozen_some rowHas_some rowIn_some rowPart_full rowPart_lit rowPut_full rowPut_lit rowSet_some size_putRow size_setB fit_all putRow_new ne_size1 ne_size2 ne_size3 ne_size4 evc_size bec_size spC_size nwC_size vs_size fit_le
/-! ### Small calls -/
theorem isof_any (n m : Int) (w : World) : Calls Try.prog 68 #[.int .i64 n, .int .i64 m] w fun e w' => e = .returned (.bool (isOfB n m)) ∧ w = w' := by
  unfold isOfB
  cases h1 : decide (0 ≤ n)
  · go_enter Try.func68, Try.ntmps68
    go_wp2
    go_ret
    exact ⟨rfl, rfl⟩
  · go_enter Try.func68, Try.ntmps68
    go_wp2
    go_ret
    exact ⟨rfl, rfl⟩
theorem namesc_any (k : Int) (w : World) : Calls Try.prog 58 #[.int .i64 k] w fun e w' => e = .returned (.bool (namesC k)) ∧ w = w' := by
  unfold namesC
  cases h1 : k != 5
  · go_enter Try.func58, Try.ntmps58
    go_wp2
    go_ret
    exact ⟨rfl, rfl⟩
  · go_enter Try.func58, Try.ntmps58
    go_wp2
    go_ret
    exact ⟨rfl, rfl⟩
theorem namesl_any (k : Int) (w : World) : Calls Try.prog 69 #[.int .i64 k] w fun e w' => e = .returned (.bool (namesL k)) ∧ w = w' := by
  unfold namesL
  cases h1 : k == 7
  · cases h2 : k == 8
    · cases h3 : k == 9
      · cases h4 : k == 10
        · cases h5 : k == 11
          all_goals
            go_enter Try.func69, Try.ntmps69
            go_wp2
            go_ret
            exact ⟨rfl, rfl⟩
        · go_enter Try.func69, Try.ntmps69
          go_wp2
          go_ret
          exact ⟨rfl, rfl⟩
      · go_enter Try.func69, Try.ntmps69
        go_wp2
        go_ret
        exact ⟨rfl, rfl⟩
    · go_enter Try.func69, Try.ntmps69
      go_wp2
      go_ret
      exact ⟨rfl, rfl⟩
  · go_enter Try.func69, Try.ntmps69
    go_wp2
    go_ret
    exact ⟨rfl, rfl⟩
theorem namesw_any (k : Int) (w : World) : Calls Try.prog 70 #[.int .i64 k] w fun e w' => e = .returned (.bool (namesW k)) ∧ w = w' := by
  unfold namesW
  cases h1 : k == 12
  · cases h2 : k == 1
    · cases h3 : k == 2
      · cases h4 : k == 3
        · cases h5 : k == 4
          all_goals
            go_enter Try.func70, Try.ntmps70
            go_wp2
            go_ret
            exact ⟨rfl, rfl⟩
        · go_enter Try.func70, Try.ntmps70
          go_wp2
          go_ret
          exact ⟨rfl, rfl⟩
      · go_enter Try.func70, Try.ntmps70
        go_wp2
        go_ret
        exact ⟨rfl, rfl⟩
    · go_enter Try.func70, Try.ntmps70
      go_wp2
      go_ret
      exact ⟨rfl, rfl⟩
  · go_enter Try.func70, Try.ntmps70
    go_wp2
    go_ret
    exact ⟨rfl, rfl⟩
theorem results_sp {fn : Func} {p : Tmp} (h : fn.results = #[.cell p 121]) (tmps : Array Value) (w : World) (q : Nat) (l o : Int) (fr : Nat × Nat)
    (hp : tmps.getD p undef = .pointer (some ⟨q, 0, none⟩)) (hb : w.heap[q]? = some (.cells (spC l o) 121 fr)) : (results fn tmps).run Try.prog w = .ok (.agg (spC l o)) w := by
  have hp' : tmps[p]?.getD undef = .pointer (some ⟨q, 0, none⟩) := by simpa using hp
  have := run_loadVar_row (P := Try.prog) w q 121 121 (spC l o) fr _ hb Try.underlying121 rfl (by rw [spC_size]; kernel_rfl)
  simp [results, h, hp', asAddr, this]
theorem results_be {fn : Func} {p : Tmp} (h : fn.results = #[.cell p 125]) (tmps : Array Value) (w : World) (q : Nat) (x : Be) (fr : Nat × Nat)
    (hp : tmps.getD p undef = .pointer (some ⟨q, 0, none⟩)) (hb : w.heap[q]? = some (.cells (bec x) 125 fr)) : (results fn tmps).run Try.prog w = .ok (.agg (bec x)) w := by
  have hp' : tmps[p]?.getD undef = .pointer (some ⟨q, 0, none⟩) := by simpa using hp
  have := run_loadVar_row (P := Try.prog) w q 125 125 (bec x) fr _ hb Try.underlying125 rfl (by rw [bec_size]; kernel_rfl)
  simp [results, h, hp', asAddr, this]
theorem two_new (w : World) (a b : Obj) : ((w.alloc a).alloc b).heap[w.heap.size]? = some a ∧ ((w.alloc a).alloc b).heap[w.heap.size + 1]? = some b ∧ Chg [] w ((w.alloc a).alloc b) := by
  refine ⟨?_, ?_, ((Chg.refl [] w).alloc _).alloc _⟩
  · rw [Below.heap_alloc _ _ _ (by simp)]; exact (MapKept.heap_alloc w a).1
  · have := (MapKept.heap_alloc (w.alloc a) b).1
    rw [show (w.alloc a).heap.size = w.heap.size + 1 by simp] at this
    exact this
theorem spotof_any (e : Ev) (w : World) : Calls Try.prog 60 #[.agg (evc e)] w fun v w' => v = .returned (.agg (spC e.li e.wo)) ∧ Chg [] w w' := by
  obtain ⟨p1, p2, c1⟩ := two_new w (.cells (evc e) 41) (.cells (spC 0 0) 121)
  have C1 := Lib.hid c1
  clear c1
  go_enter Try.func60, Try.ntmps60
  go_upto_region 1 with fail
  generalize ((w.alloc (.cells (evc e) 41)).alloc (.cells (spC 0 0) 121)) = w1 at *
  generalize hp : w.heap.size + 1 = p at *
  generalize hq : w.heap.size = q at *
  have HP := Lib.hid (show w.heap.size ≤ p by omega)
  have HN := Lib.hid (show q ≠ p by omega)
  clear hp hq
  go_wp2_with fail
  refine bodyPost_ret (v := .agg (spC e.li e.wo)) (results_sp (by rfl) _ _ p _ _ (0, 0) (by rfl) (by simp [p2])) (by rfl) ⟨rfl, C1.out.putRow p 0 _ (.inr HP.out)⟩
theorem flushof_any (e : Ev) (w : World) : Calls Try.prog 67 #[.agg (evc e)] w fun v w' => v = .returned (.agg (bec (flushOf e))) ∧ Chg [] w w' := by
  obtain ⟨p1, p2, c1⟩ := two_new w (.cells (evc e) 41) (.cells (bec ⟨false, 0, 0, 0⟩) 125)
  have C1 := Lib.hid c1
  clear c1
  go_enter Try.func67, Try.ntmps67
  go_upto_region 1 with fail
  generalize ((w.alloc (.cells (evc e) 41)).alloc (.cells (bec ⟨false, 0, 0, 0⟩) 125)) = w1 at *
  generalize hp : w.heap.size + 1 = p at *
  generalize hq : w.heap.size = q at *
  have HP := Lib.hid (show w.heap.size ≤ p by omega)
  have HN := Lib.hid (show q ≠ p by omega)
  clear hp hq
  go_wp2_with fail
  refine bodyPost_ret (v := .agg (bec (flushOf e))) (results_be (by rfl) _ _ p _ (0, 0) (by rfl) (by simp [p2]; rfl)) (by rfl) ⟨rfl, C1.out.putRow p 0 _ (.inr HP.out)⟩
theorem storeof_any (e : Ev) (w : World) : Calls Try.prog 63 #[.agg (evc e)] w fun v w' => v = .returned (.agg (bec (storeOf e))) ∧ Chg [] w w' := by
  obtain ⟨p1, p2, c1⟩ := two_new w (.cells (evc e) 41) (.cells (bec ⟨false, 0, 0, 0⟩) 125)
  have C1 := Lib.hid c1
  clear c1
  go_enter Try.func63, Try.ntmps63
  go_upto_region 1 with fail
  generalize ((w.alloc (.cells (evc e) 41)).alloc (.cells (bec ⟨false, 0, 0, 0⟩) 125)) = w1 at *
  generalize hp : w.heap.size + 1 = p at *
  generalize hq : w.heap.size = q at *
  have HP := Lib.hid (show w.heap.size ≤ p by omega)
  have HN := Lib.hid (show q ≠ p by omega)
  clear hp hq
  go_region_law (first | (go_simp; go_at_call 60; refine (spotof_any _ _).mono ?_; rintro v w3 ⟨rfl, c3⟩; have c4 := (Chg.refl [] w1).drew.trans c3; clear c3; have c3 := c4; clear c4; have q3 := c3.keep p1 (by simp); have p3 := c3.keep p2 (by simp); have C3 := Lib.hid c3; clear c3))
  all_goals
    go_wp2_with fail
    refine bodyPost_ret (v := .agg (bec (storeOf e))) (results_be (by rfl) _ _ p _ (0, 0) (by rfl) (by simp [p3]; rfl)) (by rfl) ⟨rfl, ((C1.out.trans C3.out).putRow p 0 _ (.inr HP.out))⟩
end Go.Proofs.Ytnocekhgabgffaa
