/- Texts of the walk, one behind the other: Bua Rba Rbb Rbc Rbd Bub. No condition. -/
import Derived.Test.YtnocekhgabgffaaOCac
import Derived.BigQuiet
import Derived.BigRegion
import Derived.Deep.Cut
import Derived.Deep.CutBlock
import Derived.Deep.CutRange
import Derived.Deep.DeepCutAuto
import Derived.Deep.QuietTactic
import Derived.Deep.RegionHeld3
import Derived.Deep.RegionLaw
import Derived.Deep.RegionWith
import Derived.WalkKit
section
namespace Go.Proofs.Ytnocekhgabgffaa
open Go.RowKit
set_option linter.unusedVariables false
set_option maxHeartbeats 1000000

theorem wideEv : Wide Try.prog 41 5 := ⟨⟨_, Try.underlying41, by rfl⟩, by kernel_rfl⟩
theorem loadEv (x : Value) : Instr.loadAt 41 x = loadS 41 5 x := rfl
theorem storeEv (x y : Value) : Instr.storeAt 41 x y = storeS 41 5 x y := rfl
theorem wideBe : Wide Try.prog 125 4 := ⟨⟨_, Try.underlying125, by rfl⟩, by kernel_rfl⟩
theorem loadBe (x : Value) : Instr.loadAt 125 x = loadS 125 4 x := rfl
theorem storeBe (x y : Value) : Instr.storeAt 125 x y = storeS 125 4 x y := rfl
theorem wideSp : Wide Try.prog 121 2 := ⟨⟨_, Try.underlying121, by rfl⟩, by kernel_rfl⟩
theorem loadSp (x : Value) : Instr.loadAt 121 x = loadS 121 2 x := rfl
theorem storeSp (x y : Value) : Instr.storeAt 121 x y = storeS 121 2 x y := rfl
theorem wideNw : Wide Try.prog 118 2 := ⟨⟨_, Try.underlying118, by rfl⟩, by kernel_rfl⟩
theorem loadNw (x : Value) : Instr.loadAt 118 x = loadS 118 2 x := rfl
theorem storeNw (x y : Value) : Instr.storeAt 118 x y = storeS 118 2 x y := rfl
set_option maxRecDepth 100000
attribute [local go_sem ↓] append_appS copy_copS clear_clrS make_mkS slice_slS lookup_lookS mput_mputS del_mdelS cell_row frozen_row heap_drew heap_drewN heap_alloc heap_past heap_setCell heap_putRow heap_setB loadEv storeEv loadBe storeBe loadSp storeSp loadNw storeNw loadLine storeLine evc_kd evc_co evc_li evc_wo evc_va bec_fl bec_li bec_wo bec_va nwC_0 nwC_1 spC_0 spC_1
attribute [local go_sem] rowCell_some rowFrozen_some rowHas_some rowIn_some rowPart_full rowPart_lit rowPut_full rowPut_lit rowSet_some size_putRow size_setB run_loadS run_storeS run_appS run_copS run_clrS run_mkS run_slS run_lookS run_mputS run_mdelS loadW_at storeW_at fit_all fit_le one_int one_bool one_pointer one_slice allOne_list putRow_new ne_size1 ne_size2 ne_size3 ne_size4 wideEv wideBe wideSp wideNw wideLine evc_size evc_one evc_ne evc_lit evc_z fold_evc bec_size bec_one bec_lit bec_ne bec_at bec_in spC_size spC_one nwC_size nwC_one nwC_ne nwC_set0 nwC_set1 nwC_lit bec_set0 bec_set1 bec_set2 bec_set3 spC_set0 spC_set1 spC_lit fold_spC spC_ne fold_nwC fold_bec fold_at vs_size vs_one ic_size ic_get
attribute [local simp ↓] heap_drew heap_drewN heap_alloc heap_past heap_setCell heap_putRow heap_setB
attribute [local simp] rowCell_some rowFrozen_some rowHas_some rowIn_some rowPart_full rowPart_lit rowPut_full rowPut_lit rowSet_some size_putRow size_setB fit_all putRow_new ne_size1 ne_size2 ne_size3 ne_size4 evc_size bec_size spC_size nwC_size vs_size fit_le
/-! ### Small calls -/
theorem isof_any (n m : Int) (w : World) : Calls Try.prog 68 #[.int .i64 n, .int .i64 m] w fun e w' => e = .returned (.bool (isOfB n m)) ∧ w = w' := by
  unfold isOfB
  cases h1 : decide (0 ≤ n)
  · go_enter Try.func68, Try.ntmps68
    go_wp2
    go_ret
    exact ⟨rfl, rfl⟩
  · go_enter Try.func68, Try.ntmps68
    go_wp2
    go_ret
    exact ⟨rfl, rfl⟩
theorem namesc_any (k : Int) (w : World) : Calls Try.prog 58 #[.int .i64 k] w fun e w' => e = .returned (.bool (namesC k)) ∧ w = w' := by
  unfold namesC
  cases h1 : k != 5
  · go_enter Try.func58, Try.ntmps58
    go_wp2
    go_ret
    exact ⟨rfl, rfl⟩
  · go_enter Try.func58, Try.ntmps58
    go_wp2
    go_ret
    exact ⟨rfl, rfl⟩
theorem namesl_any (k : Int) (w : World) : Calls Try.prog 69 #[.int .i64 k] w fun e w' => e = .returned (.bool (namesL k)) ∧ w = w' := by
  unfold namesL
  cases h1 : k == 7
  · cases h2 : k == 8
    · cases h3 : k == 9
      · cases h4 : k == 10
        · cases h5 : k == 11
          all_goals
            go_enter Try.func69, Try.ntmps69
            go_wp2
            go_ret
            exact ⟨rfl, rfl⟩
        · go_enter Try.func69, Try.ntmps69
          go_wp2
          go_ret
          exact ⟨rfl, rfl⟩
      · go_enter Try.func69, Try.ntmps69
        go_wp2
        go_ret
        exact ⟨rfl, rfl⟩
    · go_enter Try.func69, Try.ntmps69
      go_wp2
      go_ret
      exact ⟨rfl, rfl⟩
  · go_enter Try.func69, Try.ntmps69
    go_wp2
    go_ret
    exact ⟨rfl, rfl⟩
theorem namesw_any (k : Int) (w : World) : Calls Try.prog 70 #[.int .i64 k] w fun e w' => e = .returned (.bool (namesW k)) ∧ w = w' := by
  unfold namesW
  cases h1 : k == 12
  · cases h2 : k == 1
    · cases h3 : k == 2
      · cases h4 : k == 3
        · cases h5 : k == 4
          all_goals
            go_enter Try.func70, Try.ntmps70
            go_wp2
            go_ret
            exact ⟨rfl, rfl⟩
        · go_enter Try.func70, Try.ntmps70
          go_wp2
          go_ret
          exact ⟨rfl, rfl⟩
      · go_enter Try.func70, Try.ntmps70
        go_wp2
        go_ret
        exact ⟨rfl, rfl⟩
    · go_enter Try.func70, Try.ntmps70
      go_wp2
      go_ret
      exact ⟨rfl, rfl⟩
  · go_enter Try.func70, Try.ntmps70
    go_wp2
    go_ret
    exact ⟨rfl, rfl⟩
theorem results_sp {fn : Func} {p : Tmp} (h : fn.results = #[.cell p 121]) (tmps : Array Value) (w : World) (q : Nat) (l o : Int) (fr : Nat × Nat)
    (hp : tmps.getD p undef = .pointer (some ⟨q, 0, none⟩)) (hb : w.heap[q]? = some (.cells (spC l o) 121 fr)) : (results fn tmps).run Try.prog w = .ok (.agg (spC l o)) w := by
  have hp' : tmps[p]?.getD undef = .pointer (some ⟨q, 0, none⟩) := by simpa using hp
  have := run_loadVar_row (P := Try.prog) w q 121 121 (spC l o) fr _ hb Try.underlying121 rfl (by rw [spC_size]; kernel_rfl)
  simp [results, h, hp', asAddr, this]
theorem results_be {fn : Func} {p : Tmp} (h : fn.results = #[.cell p 125]) (tmps : Array Value) (w : World) (q : Nat) (x : Be) (fr : Nat × Nat)
    (hp : tmps.getD p undef = .pointer (some ⟨q, 0, none⟩)) (hb : w.heap[q]? = some (.cells (bec x) 125 fr)) : (results fn tmps).run Try.prog w = .ok (.agg (bec x)) w := by
  have hp' : tmps[p]?.getD undef = .pointer (some ⟨q, 0, none⟩) := by simpa using hp
  have := run_loadVar_row (P := Try.prog) w q 125 125 (bec x) fr _ hb Try.underlying125 rfl (by rw [bec_size]; kernel_rfl)
  simp [results, h, hp', asAddr, this]
theorem two_new (w : World) (a b : Obj) : ((w.alloc a).alloc b).heap[w.heap.size]? = some a ∧ ((w.alloc a).alloc b).heap[w.heap.size + 1]? = some b ∧ Chg [] w ((w.alloc a).alloc b) := by
  refine ⟨?_, ?_, ((Chg.refl [] w).alloc _).alloc _⟩
  · rw [Below.heap_alloc _ _ _ (by simp)]; exact (MapKept.heap_alloc w a).1
  · have := (MapKept.heap_alloc (w.alloc a) b).1
    rw [show (w.alloc a).heap.size = w.heap.size + 1 by simp] at this
    exact this
theorem spotof_any (e : Ev) (w : World) : Calls Try.prog 60 #[.agg (evc e)] w fun v w' => v = .returned (.agg (spC e.li e.wo)) ∧ Chg [] w w' := by
  obtain ⟨p1, p2, c1⟩ := two_new w (.cells (evc e) 41) (.cells (spC 0 0) 121)
  have C1 := Lib.hid c1
  clear c1
  go_enter Try.func60, Try.ntmps60
  go_upto_region 1 with fail
  generalize ((w.alloc (.cells (evc e) 41)).alloc (.cells (spC 0 0) 121)) = w1 at *
  generalize hp : w.heap.size + 1 = p at *
  generalize hq : w.heap.size = q at *
  have HP := Lib.hid (show w.heap.size ≤ p by omega)
  have HN := Lib.hid (show q ≠ p by omega)
  clear hp hq
  go_wp2_with fail
  refine bodyPost_ret (v := .agg (spC e.li e.wo)) (results_sp (by rfl) _ _ p _ _ (0, 0) (by rfl) (by simp [p2])) (by rfl) ⟨rfl, C1.out.putRow p 0 _ (.inr HP.out)⟩
theorem flushof_any (e : Ev) (w : World) : Calls Try.prog 67 #[.agg (evc e)] w fun v w' => v = .returned (.agg (bec (flushOf e))) ∧ Chg [] w w' := by
  obtain ⟨p1, p2, c1⟩ := two_new w (.cells (evc e) 41) (.cells (bec ⟨false, 0, 0, 0⟩) 125)
  have C1 := Lib.hid c1
  clear c1
  go_enter Try.func67, Try.ntmps67
  go_upto_region 1 with fail
  generalize ((w.alloc (.cells (evc e) 41)).alloc (.cells (bec ⟨false, 0, 0, 0⟩) 125)) = w1 at *
  generalize hp : w.heap.size + 1 = p at *
  generalize hq : w.heap.size = q at *
  have HP := Lib.hid (show w.heap.size ≤ p by omega)
  have HN := Lib.hid (show q ≠ p by omega)
  clear hp hq
  go_wp2_with fail
  refine bodyPost_ret (v := .agg (bec (flushOf e))) (results_be (by rfl) _ _ p _ (0, 0) (by rfl) (by simp [p2]; rfl)) (by rfl) ⟨rfl, C1.out.putRow p 0 _ (.inr HP.out)⟩
theorem storeof_any (e : Ev) (w : World) : Calls Try.prog 63 #[.agg (evc e)] w fun v w' => v = .returned (.agg (bec (storeOf e))) ∧ Chg [] w w' := by
  obtain ⟨p1, p2, c1⟩ := two_new w (.cells (evc e) 41) (.cells (bec ⟨false, 0, 0, 0⟩) 125)
  have C1 := Lib.hid c1
  clear c1
  go_enter Try.func63, Try.ntmps63
  go_upto_region 1 with fail
  generalize ((w.alloc (.cells (evc e) 41)).alloc (.cells (bec ⟨false, 0, 0, 0⟩) 125)) = w1 at *
  generalize hp : w.heap.size + 1 = p at *
  generalize hq : w.heap.size = q at *
  have HP := Lib.hid (show w.heap.size ≤ p by omega)
  have HN := Lib.hid (show q ≠ p by omega)
  clear hp hq
  go_region_law (first | (go_simp; go_at_call 60; refine (spotof_any _ _).mono ?_; rintro v w3 ⟨rfl, c3⟩; have c4 := (Chg.refl [] w1).drew.trans c3; clear c3; have c3 := c4; clear c4; have q3 := c3.keep p1 (by simp); have p3 := c3.keep p2 (by simp); have C3 := Lib.hid c3; clear c3))
  all_goals
    go_wp2_with fail
    refine bodyPost_ret (v := .agg (bec (storeOf e))) (results_be (by rfl) _ _ p _ (0, 0) (by rfl) (by simp [p3]; rfl)) (by rfl) ⟨rfl, ((C1.out.trans C3.out).putRow p 0 _ (.inr HP.out))⟩
end Go.Proofs.Ytnocekhgabgffaa
end
section
namespace Go.Proofs.Ytnocekhgabgffaa
open Go.RowKit
set_option linter.unusedVariables false
set_option maxHeartbeats 1000000

set_option maxRecDepth 100000
attribute [local go_sem ↓] append_appS copy_copS clear_clrS make_mkS slice_slS lookup_lookS mput_mputS del_mdelS cell_row frozen_row heap_drew heap_drewN heap_alloc heap_past heap_setCell heap_putRow heap_setB loadEv storeEv loadBe storeBe loadSp storeSp loadNw storeNw loadLine storeLine evc_kd evc_co evc_li evc_wo evc_va bec_fl bec_li bec_wo bec_va nwC_0 nwC_1 spC_0 spC_1
attribute [local go_sem] rowCell_some rowFrozen_some rowHas_some rowIn_some rowPart_full rowPart_lit rowPut_full rowPut_lit rowSet_some size_putRow size_setB run_loadS run_storeS run_appS run_copS run_clrS run_mkS run_slS run_lookS run_mputS run_mdelS loadW_at storeW_at fit_all fit_le one_int one_bool one_pointer one_slice allOne_list putRow_new ne_size1 ne_size2 ne_size3 ne_size4 wideEv wideBe wideSp wideNw wideLine evc_size evc_one evc_ne evc_lit evc_z fold_evc bec_size bec_one bec_lit bec_ne bec_at bec_in spC_size spC_one nwC_size nwC_one nwC_ne nwC_set0 nwC_set1 nwC_lit bec_set0 bec_set1 bec_set2 bec_set3 spC_set0 spC_set1 spC_lit fold_spC spC_ne fold_nwC fold_bec fold_at vs_size vs_one ic_size ic_get
attribute [local simp ↓] heap_drew heap_drewN heap_alloc heap_past heap_setCell heap_putRow heap_setB
attribute [local simp] rowCell_some rowFrozen_some rowHas_some rowIn_some rowPart_full rowPart_lit rowPut_full rowPut_lit rowSet_some size_putRow size_setB fit_all putRow_new ne_size1 ne_size2 ne_size3 ne_size4 evc_size bec_size spC_size nwC_size vs_size fit_le
/-! ### Cells of the document's bus -/
structure Ci where
  A : Option Addr
  n : Nat
  cap : Nat
  B : Option Addr
  k : Nat
  kap : Nat
  st : Bool
  lk : Bool
  pl : Int × Int
def Ci.enc (x : Ci) : List Value := [.slice x.A x.n x.cap, .slice x.B x.k x.kap, .bool x.st, .bool x.lk, .int .i64 x.pl.1, .int .i64 x.pl.2]
theorem Ci.len (x : Ci) : (Ci.enc x).length = 6 := rfl
theorem Ci.one (x : Ci) : ∀ v ∈ Ci.enc x, v.oneCell' = true := by
  intro v hv
  simp only [Ci.enc, List.mem_cons, List.not_mem_nil, or_false] at hv
  rcases hv with rfl | rfl | rfl | rfl | rfl | rfl <;> rfl
def ciZ : Ci := ⟨none, 0, 0, none, 0, 0, false, false, (0, 0)⟩
def snE (p : Int × Int) : List Value := [.int .i64 p.1, .int .i64 p.2]
theorem snE_len (p : Int × Int) : (snE p).length = 2 := rfl
theorem snE_one (p : Int × Int) : ∀ v ∈ snE p, v.oneCell' = true := by
  intro v hv
  simp only [snE, List.mem_cons, List.not_mem_nil, or_false] at hv
  rcases hv with rfl | rfl <;> rfl
theorem snE_sp (p : Int × Int) : (snE p).toArray = spC p.1 p.2 := rfl
theorem wideIt : Wide Try.prog 101 4 := ⟨⟨_, Try.underlying101, by rfl⟩, by kernel_rfl⟩
theorem loadIt (x : Value) : Instr.loadAt 101 x = loadS 101 4 x := rfl
theorem storeIt (x y : Value) : Instr.storeAt 101 x y = storeS 101 4 x y := rfl
theorem wideSn : Wide Try.prog 104 2 := ⟨⟨_, Try.underlying104, by rfl⟩, by kernel_rfl⟩
theorem loadSn (x : Value) : Instr.loadAt 104 x = loadS 104 2 x := rfl
theorem storeSn (x y : Value) : Instr.storeAt 104 x y = storeS 104 2 x y := rfl
theorem widePl : Wide Try.prog 80 2 := ⟨⟨_, Try.underlying80, by rfl⟩, by kernel_rfl⟩
theorem loadPl (x : Value) : Instr.loadAt 80 x = loadS 80 2 x := rfl
theorem storePl (x y : Value) : Instr.storeAt 80 x y = storeS 80 2 x y := rfl
theorem eltIt : Elt Try.prog 77 101 4 32 (.agg (bec beZ)) Be.enc where
  slice := Try.underlying77
  info := by kernel_rfl
  zero := bec_size beZ
  zone := by intro v hv; exact Be.one beZ v (by simpa [Value.cells, bec] using hv)
  pos := by omega
  len := Be.len
  one := Be.one
theorem eltSn : Elt Try.prog 78 104 2 16 (.agg (spC 0 0)) snE where
  slice := Try.underlying78
  info := by kernel_rfl
  zero := spC_size 0 0
  zone := by intro v hv; exact snE_one (0, 0) v (by simpa [Value.cells, spC, snE] using hv)
  pos := by omega
  len := snE_len
  one := snE_one
theorem it_eq (a b : Be) (w : World) : (Op.equalIn 10000 101 (.agg (bec a)) (.agg (bec b))).run Try.prog w = .ok (decide (a = b)) w := by
  have h0 := fun a => run_part_plain (P := Try.prog) w (e := 4) (by kernel_rfl) (bec_fl a)
  have h1 := fun a => run_part_plain (P := Try.prog) w (e := 3) (by kernel_rfl) (bec_li a)
  have h2 := fun a => run_part_plain (P := Try.prog) w (e := 3) (by kernel_rfl) (bec_wo a)
  have h3 := fun a => run_part_plain (P := Try.prog) w (e := 39) (by kernel_rfl) (bec_va a)
  have e0 := fun a b => run_equalIn_bool (P := Try.prog) w 9998 4 a b Try.underlying4
  have e1 := fun a b => run_equalIn_int w 9998 3 .i64 .i64 a b Try.underlying3
  have e2 := fun a b => run_equalIn_int w 9998 39 .u64 .u64 a b Try.underlying39
  rw [run_equalIn_struct w 9999 101 _ _ (by simp only [Program.fieldsOf, Try.underlying101]) (by kernel_rfl)]
  simp only [Program.fieldsOf, Try.underlying101]
  cases a; cases b
  rename_i x1 x2 x3 x4 y1 y2 y3 y4
  simp [Op.eqFields, h0, h1, h2, h3, e0, e1, e2]
  by_cases x : x1 = y1 <;> by_cases y : x2 = y2 <;> by_cases z : x3 = y3 <;> by_cases u : x4 = y4 <;> simp [*]
theorem pl_eq (a b c d : Int) (w : World) : (Op.equalIn 10000 80 (.agg (spC a b)) (.agg (spC c d))).run Try.prog w = .ok (decide (a = c) && decide (b = d)) w := by
  have h0 := fun a b => run_part_plain (P := Try.prog) w (e := 3) (by kernel_rfl) (spC_0 a b)
  have h1 := fun a b => run_part_plain (P := Try.prog) w (e := 3) (by kernel_rfl) (spC_1 a b)
  have e1 := fun a b => run_equalIn_int w 9998 3 .i64 .i64 a b Try.underlying3
  rw [run_equalIn_struct w 9999 80 _ _ (by simp only [Program.fieldsOf, Try.underlying80]) (by kernel_rfl)]
  simp only [Program.fieldsOf, Try.underlying80]
  simp [Op.eqFields, h0, h1, e1]
  by_cases x : a = c <;> by_cases y : b = d <;> simp [*]
/-! ### A core of it in memory -/
structure DcM (w : World) (x : Ci) (I : List Nat) (c : Rc) : Prop where
  n : x.n = c.L.length
  k : x.k = c.S.length
  hA : Sl w 4 x.A x.n (cat Be.enc c.L)
  hB : Sl w 2 x.B x.k (cat snE c.S)
  iA : ∀ a, x.A = some a → a.block ∈ I
  iB : ∀ a, x.B = some a → a.block ∈ I
  st : x.st = c.st
  lk : x.lk = c.lk
  pl : x.pl = c.pl
  cA : x.n ≤ x.cap
  cB : x.k ≤ x.kap
theorem DcM.keep {w w' : World} {x : Ci} {I l : List Nat} {c : Rc} (h : DcM w x I c) (hc : Chg l w w') (hl : ∀ z ∈ I, z ∉ l) : DcM w' x I c :=
  ⟨h.n, h.k, h.hA.chg hc (fun a ha => hl _ (h.iA a ha)), h.hB.chg hc (fun a ha => hl _ (h.iB a ha)), h.iA, h.iB, h.st, h.lk, h.pl, h.cA, h.cB⟩
theorem DcM.more {w : World} {x : Ci} {I I' : List Nat} {c : Rc} (h : DcM w x I c) (hI : ∀ z ∈ I, z ∈ I') : DcM w x I' c :=
  ⟨h.n, h.k, h.hA, h.hB, fun a ha => hI _ (h.iA a ha), fun a ha => hI _ (h.iB a ha), h.st, h.lk, h.pl, h.cA, h.cB⟩
theorem dcm_zero (w : World) : DcM w ciZ [] rcZ := ⟨rfl, rfl, ⟨rfl, .inl rfl⟩, ⟨rfl, .inl rfl⟩, (fun a h => by cases h), (fun a h => by cases h), rfl, rfl, rfl, Nat.le_refl _, Nat.le_refl _⟩
theorem ci_cells {xs : List Ci} {i : Nat} {x : Ci} (h : xs[i]? = some x) :
    (sq Ci.enc xs [])[i * 6]? = some (.slice x.A x.n x.cap) ∧ (sq Ci.enc xs [])[i * 6 + 1]? = some (.slice x.B x.k x.kap) ∧ (sq Ci.enc xs [])[i * 6 + 2]? = some (.bool x.st) ∧ (sq Ci.enc xs [])[i * 6 + 3]? = some (.bool x.lk) ∧
    (sq Ci.enc xs [])[i * 6 + 4]? = some (.int .i64 x.pl.1) ∧ (sq Ci.enc xs [])[i * 6 + 5]? = some (.int .i64 x.pl.2) :=
  ⟨sq_cell Ci.len h [] 0 (by omega), sq_cell Ci.len h [] 1 (by omega), sq_cell Ci.len h [] 2 (by omega), sq_cell Ci.len h [] 3 (by omega), sq_cell Ci.len h [] 4 (by omega), sq_cell Ci.len h [] 5 (by omega)⟩
/-! ### The bus -/
structure Cf where
  m : Nat
  n : Nat
  v : Nat
  c3 : Int
  c4 : Int
  c5 : Int
  c6 : Int
def dbc (z : Cf) (bl kb bc bp ck : Nat) : Array Value := #[.int .i64 z.m, .int .i64 z.n, .int .i64 z.v, .int .i64 z.c3, .int .i64 z.c4, .int .i64 z.c5, .int .i64 z.c6, .slice (some ⟨bl, 0, none⟩) z.n z.n, .slice (some ⟨kb, 0, none⟩) z.n ck, .slice (some ⟨bc, 0, none⟩) z.m z.m, .slice (some ⟨bp, 0, none⟩) z.n z.n]
structure Rb.Ok (z : Cf) (N : Nat) (R : Rb) : Prop where
  n0 : 0 < z.n
  n64 : z.n ≤ 64
  m8 : z.m ≤ 8
  vn : z.v ≤ z.n
  vol : R.vol = z.v
  ls : R.ls.length = z.n * 8
  ks : R.ks.length = z.n * 8
  ps : R.ps.length = z.n
  cs : R.cs.length = z.m
  pb : ∀ p ∈ R.ps, 0 ≤ p ∧ p ≤ N
  cb : ∀ c ∈ R.cs, c.L.length ≤ N ∧ c.S.length ≤ N
structure DbP (z : Cf) (w : World) (q bl kb bp bc ck : Nat) (I : List Nat) (xs : List Ci) (R : Rb) : Prop where
  hq : w.heap[q]? = some (.cells (dbc z bl kb bc bp ck) 59 (0, 0))
  hl : w.heap[bl]? = some (.cells (bk R.ls []) 44 (0, 0))
  hk : ∃ r, w.heap[kb]? = some (.cells (bk R.ks r) 44 (0, 0))
  hp : w.heap[bp]? = some (.cells (ic R.ps) 3 (0, 0))
  hc : w.heap[bc]? = some (.cells (sq Ci.enc xs []) 82 (0, 0))
  lx : xs.length = z.m
  lc : R.cs.length = z.m
  co : ∀ (i : Nat) (x : Ci) (c : Rc), xs[i]? = some x → R.cs[i]? = some c → DcM w x I c
  nd : [q, bl, kb, bp, bc].Nodup
  iF : ∀ y ∈ I, y ∉ [q, bl, kb, bp, bc]
  iO : ∀ y ∈ I, y < w.heap.size
section
variable {z : Cf} {w w' : World} {q bl kb bp bc ck : Nat} {I : List Nat} {xs : List Ci} {R : Rb}
theorem DbP.keep {l : List Nat} (h : DbP z w q bl kb bp bc ck I xs R) (hc : Chg l w w') (hl : ∀ b ∈ [q, bl, kb, bp, bc] ++ I, b ∉ l) : DbP z w' q bl kb bp bc ck I xs R := by
  obtain ⟨r, hr⟩ := h.hk
  exact ⟨hc.keep h.hq (hl _ (by simp)), hc.keep h.hl (hl _ (by simp)), ⟨r, hc.keep hr (hl _ (by simp))⟩, hc.keep h.hp (hl _ (by simp)), hc.keep h.hc (hl _ (by simp)), h.lx, h.lc, fun i x c h1 h2 => (h.co i x c h1 h2).keep hc (fun y hy => hl y (List.mem_append.2 (.inr hy))), h.nd, h.iF, fun y hy => Nat.lt_of_lt_of_le (h.iO y hy) hc.size⟩
theorem DbP.old (h : DbP z w q bl kb bp bc ck I xs R) : ∀ b ∈ [q, bl, kb, bp, bc] ++ I, b < w.heap.size := by
  intro b hb
  obtain ⟨r, hr⟩ := h.hk
  rcases List.mem_append.1 hb with hb | hb
  · simp only [List.mem_cons, List.not_mem_nil, or_false] at hb
    rcases hb with rfl | rfl | rfl | rfl | rfl
    · exact lt_heap h.hq
    · exact lt_heap h.hl
    · exact lt_heap hr
    · exact lt_heap h.hp
    · exact lt_heap h.hc
  · exact h.iO b hb
theorem DbP.core (h : DbP z w q bl kb bp bc ck I xs R) {i : Nat} (hi : i < z.m) : ∃ x, xs[i]? = some x ∧ R.cs[i]? = some (R.core i) ∧ DcM w x I (R.core i) := by
  have h1 := h.lx; have h2 := h.lc
  have e1 : xs[i]? = some (xs[i]'(by omega)) := List.getElem?_eq_getElem _
  have e3 : R.cs[i]? = some (R.core i) := by
    unfold Rb.core
    rw [List.getD_eq_getElem?_getD, List.getElem?_eq_getElem (by omega : i < R.cs.length)]; rfl
  exact ⟨_, e1, e3, h.co i _ _ e1 e3⟩
end
theorem Rb.Ok.mono {z : Cf} {R : Rb} {N M : Nat} (h : R.Ok z N) (hN : N ≤ M) : R.Ok z M :=
  ⟨h.n0, h.n64, h.m8, h.vn, h.vol, h.ls, h.ks, h.ps, h.cs, fun p hp => by have := h.pb p hp; omega, fun c hc => by have := h.cb c hc; omega⟩
theorem Rb.Ok.core {z : Cf} {R : Rb} {N : Nat} (h : R.Ok z N) (i : Nat) : (R.core i).L.length ≤ N ∧ (R.core i).S.length ≤ N := by
  unfold Rb.core
  rw [List.getD_eq_getElem?_getD]
  cases e : R.cs[i]? with
  | none => exact ⟨Nat.zero_le _, Nat.zero_le _⟩
  | some c => exact h.cb c (List.mem_of_getElem? e)
theorem Rb.Ok.setC {z : Cf} {R : Rb} {N : Nat} (h : R.Ok z N) (i : Nat) {c : Rc} (h1 : c.L.length ≤ N) (h2 : c.S.length ≤ N) : (R.setC i c).Ok z N :=
  ⟨h.n0, h.n64, h.m8, h.vn, h.vol, h.ls, h.ks, h.ps, by simp [Rb.setC, h.cs], h.pb, fun d hd => by
    rcases List.mem_or_eq_of_mem_set hd with hd | rfl
    · exact h.cb d hd
    · exact ⟨h1, h2⟩⟩
theorem Rb.Ok.setW {z : Cf} {R : Rb} {N : Nat} (h : R.Ok z N) (l o : Nat) (v : Int) : (R.setW l o v).Ok z N :=
  ⟨h.n0, h.n64, h.m8, h.vn, h.vol, by simp [Rb.setW, h.ls], h.ks, h.ps, h.cs, h.pb, h.cb⟩
theorem doneC_small {R : Rb} {c : Rc} {N : Nat} (h1 : c.L.length ≤ N) (h2 : c.S.length ≤ N) (e : Ev) : (doneC R c e).L.length ≤ N + 1 ∧ (doneC R c e).S.length ≤ N + 1 := by
  unfold doneC
  split
  · simp; omega
  split
  · simp; omega
  split
  · split
    · simp; omega
    · omega
  split
  · simp; omega
  split
  · split
    · omega
    · simp; omega
  split
  · simp; omega
  · omega
theorem rdo_ok {z : Cf} {R R' : Rb} {N : Nat} (h : R.Ok z N) {e : Ev} (hd : doR R e = some R') : R'.Ok z (N + 1) := by
  unfold doR at hd
  split at hd
  case isFalse => cases hd
  rename_i hh
  have hL : namesL e.kd = true → 0 ≤ e.li ∧ e.li < z.n := fun hn => by
    unfold hasR at hh
    rw [hn, h.ps] at hh
    simp only [Bool.and_eq_true, Bool.or_eq_true, Bool.not_eq_true'] at hh
    rcases hh.2.1.2 with h1 | h1
    · cases h1
    · unfold isOfB at h1; simp at h1; omega
  have h' := h.mono (Nat.le_succ N)
  split at hd
  · rename_i h5
    cases hd
    have hl : e.li.toNat < z.n := by have := hL (by rw [h5]; rfl); omega
    have f1 : Fit (e.li.toNat * 8) 8 R.ls.length := by have := h.ls; unfold Fit; omega
    have f2 : Fit (e.li.toNat * 8) 8 R.ks.length := by have := h.ks; unfold Fit; omega
    refine ⟨h.n0, h.n64, h.m8, h.vn, h.vol, h.ls, ?_, by simp [Rb.push, h.ps], h.cs, fun p hp => ?_, h'.cb⟩
    · unfold Rb.push
      simp only
      have hx : (if e.li.toNat < R.vol then zln else ln R.ls e.li.toNat).length = 8 := by
        split
        · rfl
        · exact ln_length _ _ f1
      rw [lnPut_length _ _ _ f2 hx, h.ks]
    · rcases List.mem_or_eq_of_mem_set hp with hp | rfl
      · exact h'.pb p hp
      · have hps : e.li.toNat < R.ps.length := by rw [h.ps]; exact hl
        have := h.pb _ (List.getElem_mem hps)
        rw [List.getD_eq_getElem?_getD, List.getElem?_eq_getElem hps]
        simp only [Option.getD_some]; omega
  split at hd
  · cases hd
    have hv := h.vn
    refine ⟨h.n0, h.n64, h.m8, h.vn, h.vol, ?_, h.ks, h.ps, by simp [Rb.fail, h.cs], h'.pb, fun c hc => ?_⟩
    · unfold Rb.fail
      simp only
      rw [forget_length _ _ (by rw [h.ks, h.vol]; omega), h.ks]
    · have := List.eq_of_mem_replicate hc; subst this; exact ⟨Nat.zero_le _, Nat.zero_le _⟩
  split at hd
  · cases hd
  · cases hd
    unfold doneR
    have hc := doneC_small (R := R) (h.core e.co.toNat).1 (h.core e.co.toNat).2 e
    split
    · exact (h'.setW _ _ _).setC _ hc.1 hc.2
    · exact h'.setC _ hc.1 hc.2
end Go.Proofs.Ytnocekhgabgffaa
end
section
namespace Go.Proofs.Ytnocekhgabgffaa
open Go.RowKit
set_option linter.unusedVariables false
set_option maxHeartbeats 1000000

set_option maxRecDepth 100000
attribute [local go_sem ↓] append_appS copy_copS clear_clrS make_mkS slice_slS lookup_lookS mput_mputS del_mdelS cell_row frozen_row heap_drew heap_drewN heap_alloc heap_past heap_setCell heap_putRow heap_setB loadEv storeEv loadBe storeBe loadSp storeSp loadNw storeNw loadLine storeLine evc_kd evc_co evc_li evc_wo evc_va bec_fl bec_li bec_wo bec_va nwC_0 nwC_1 spC_0 spC_1
attribute [local go_sem] rowCell_some rowFrozen_some rowHas_some rowIn_some rowPart_full rowPart_lit rowPut_full rowPut_lit rowSet_some size_putRow size_setB run_loadS run_storeS run_appS run_copS run_clrS run_mkS run_slS run_lookS run_mputS run_mdelS loadW_at storeW_at fit_all fit_le one_int one_bool one_pointer one_slice allOne_list putRow_new ne_size1 ne_size2 ne_size3 ne_size4 wideEv wideBe wideSp wideNw wideLine evc_size evc_one evc_ne evc_lit evc_z fold_evc bec_size bec_one bec_lit bec_ne bec_at bec_in spC_size spC_one nwC_size nwC_one nwC_ne nwC_set0 nwC_set1 nwC_lit bec_set0 bec_set1 bec_set2 bec_set3 spC_set0 spC_set1 spC_lit fold_spC spC_ne fold_nwC fold_bec fold_at vs_size vs_one ic_size ic_get
attribute [local simp ↓] heap_drew heap_drewN heap_alloc heap_past heap_setCell heap_putRow heap_setB
attribute [local simp] rowCell_some rowFrozen_some rowHas_some rowIn_some rowPart_full rowPart_lit rowPut_full rowPut_lit rowSet_some size_putRow size_setB fit_all putRow_new ne_size1 ne_size2 ne_size3 ne_size4 evc_size bec_size spC_size nwC_size vs_size fit_le
attribute [local go_sem ↓] loadIt storeIt loadSn storeSn loadPl storePl
attribute [local go_sem] wideIt wideSn widePl
section
variable {w : World} {bc i : Nat} {xs : List Ci} {x : Ci} {I : List Nat} {c : Rc}
theorem rfirst_any (hb : w.heap[bc]? = some (.cells (sq Ci.enc xs []) 82 (0, 0))) (hx : xs[i]? = some x) (hd : DcM w x I c) (hl : c.L.length ≤ 100000) (y : Be) :
    Calls Try.prog 40 #[.pointer (some ⟨bc, i * 6, none⟩), .agg (bec y)] w fun e w' => e = .returned (.bool (firstR c y)) ∧ Chg [] w w' := by
  obtain ⟨n1, n2⟩ := one_new w (.cells (bec y) 101)
  have N2 := Lib.hid n2
  have hb1 := n2.keep hb (by simp)
  have D1 := hd.keep n2 (by simp)
  clear n2 hb hd
  obtain ⟨c0, c1, c2, c3, c4, c5⟩ := ci_cells hx
  have hn := D1.n
  cases hL : c.L with
  | nil =>
    rw [show firstR c y = false by simp [firstR, hL]]
    have hn0 : x.n = 0 := by rw [hn, hL]; rfl
    rw [hn0] at c0
    clear hn0
    clear D1 hn hL
    go_enter Try.func40, Try.ntmps40
    go_upto_region 1 with fail
    generalize w.alloc (.cells (bec y) 101) = w1 at *
    generalize w.heap.size = p at *
    go_quiet (fail)
    go_wp2_with fail
    go_ret
    exact ⟨rfl, N2.out.drewN _⟩
  | cons z l =>
    rw [show firstR c y = decide (z = y) by simp [firstR, hL]; rfl]
    rw [hL] at hn hl
    simp only [List.length_cons] at hn hl
    obtain ⟨b, o, hA⟩ := D1.hA.addr (by rw [hn]; omega)
    have hs := D1.hA
    rw [hA] at hs c0
    obtain ⟨cs, t, f, he, _, hp⟩ := hs.elem (i := 0) (ys := Be.enc z) (by omega) (by rw [hn]; omega) (by rw [hL]; rfl)
    obtain ⟨p1, p2⟩ := hp 0 4 (by omega)
    simp only [Nat.zero_mul, Nat.add_zero] at p1 p2
    rw [show ((Be.enc z).drop 0 |>.take 4).toArray = bec z from rfl] at p2
    rw [hn] at c0
    have t0 : (0 : Int) < ((l.length : Nat) : Int) + 1 := by omega
    have hq := fun w => it_eq z y w
    generalize decide (z = y) = dz at *
    clear D1 hn hL hA hs hp
    go_enter Try.func40, Try.ntmps40
    go_upto_region 1 with fail
    generalize w.alloc (.cells (bec y) 101) = w1 at *
    generalize w.heap.size = p at *
    cases dz
    · go_quiet (fail)
      go_wp2_with fail
      go_ret
      exact ⟨rfl, N2.out.drewN _⟩
    · go_quiet (fail)
      go_wp2_with fail
      go_ret
      exact ⟨rfl, N2.out.drewN _⟩
theorem stsAt_drop {L : List Be} {j : Nat} {y : Be} (hy : L[j]? = some y) (l o : Int) : stsAt l o (L.drop j) = (if atP l o y then [y.va] else []) ++ stsAt l o (L.drop (j + 1)) := by
  obtain ⟨hj, rfl⟩ := List.getElem?_eq_some_iff.1 hy
  rw [List.drop_eq_getElem_cons hj, stsAt_cons]
theorem own_hit {L : List Be} {j : Nat} {y : Be} (hy : L[j]? = some y) {l o : Int} (ha : atP l o y = true) (hz : stsAt l o (L.drop (j + 1)) = []) : ownR L l o = some y.va := by
  unfold ownR
  have h1 := stsAt_drop hy l o
  rw [if_pos ha, hz, List.append_nil] at h1
  have h2 : stsAt l o L = stsAt l o (L.take j) ++ stsAt l o (L.drop j) := by rw [← stsAt_app, List.take_append_drop]
  rw [h2, h1, List.getLast?_concat]
theorem rown_any (hb : w.heap[bc]? = some (.cells (sq Ci.enc xs []) 82 (0, 0))) (hx : xs[i]? = some x) (hd : DcM w x I c) (hl : c.L.length ≤ 100000) (l o v : Int) (f : Bool) (hv : v = (ownR c.L l o).getD 0) (hf : f = (ownR c.L l o).isSome) :
    Calls Try.prog 39 #[.pointer (some ⟨bc, i * 6, none⟩), .int .i64 l, .int .i64 o] w fun e w' => e = .returned (.tuple #[.int .u64 v, .bool f]) ∧ Chg [] w w' := by
  obtain ⟨c0, c1, c2, c3, c4, c5⟩ := ci_cells hx
  rw [hd.n] at c0
  have HB := Lib.hid hb
  have HD := Lib.hid hd
  have HV := Lib.hid hv
  have HF := Lib.hid hf
  clear hd hv hf
  go_enter Try.func39, Try.ntmps39
  go_wp2_with fail
  clear hb
  go_loopw [8] (fun i wr => ∃ (j : Nat) (z : Int), j ≤ c.L.length ∧ z = (j : Int) - 1 ∧ i = .int .i64 z ∧ Chg [] w wr ∧ stsAt l o (c.L.drop j) = []) (fun i _ => (intOf i + 1).toNat)
  case atStart => exact ⟨c.L.length, _, Nat.le_refl _, rfl, by go_num, Chg.refl _ _, by rw [List.drop_length]; rfl⟩
  case round =>
    obtain ⟨j, z, hj, hz, rfl, hc, hs⟩ := hrel
    have hbr := hc.keep HB.out (by simp)
    have HC := Lib.hid hc
    have HS := Lib.hid hs
    clear hs
    cases j with
    | zero =>
      have g0 : ¬ (0 : Int) ≤ z := by omega
      clear hz
      go_wp2_with fail
      go_ret2
      have h0 : ownR c.L l o = none := by unfold ownR; have := HS.out; rw [List.drop_zero] at this; rw [this]; rfl
      refine ⟨?_, HC.out⟩
      rw [HV.out, HF.out, h0]; rfl
    | succ j =>
      obtain rfl : z = (j : Int) := by omega
      obtain ⟨y, hy⟩ : ∃ y, c.L[j]? = some y := ⟨c.L[j]'(by omega), List.getElem?_eq_getElem _⟩
      obtain ⟨ba, oa, hA⟩ := HD.out.hA.addr (by rw [HD.out.n]; omega)
      have hsl := HD.out.hA.chg hc (by simp)
      rw [hA] at hsl c0
      obtain ⟨cs, ty, ff, he, hi, _⟩ := hsl.elem (i := j) (ys := Be.enc y) (by omega) (by rw [HD.out.n]; omega) (cat_part Be.len hy)
      have i0 : cs[oa + j * 4]? = some (.bool y.fl) := hi 0 (by omega)
      have i1 : cs[oa + j * 4 + 1]? = some (.int .i64 y.li) := hi 1 (by omega)
      have i2 : cs[oa + j * 4 + 2]? = some (.int .i64 y.wo) := hi 2 (by omega)
      have i3 : cs[oa + j * 4 + 3]? = some (.int .u64 y.va) := hi 3 (by omega)
      have g0 : (0 : Int) ≤ (j : Int) := by omega
      have g1 : (j : Int) < (c.L.length : Int) := by omega
      have g2 : (c.L.length : Int) ≤ 100000 := by omega
      have HY := Lib.hid hy
      have HJ := Lib.hid hj
      clear hsl hi hz hy hc hj
      generalize c.L.length = nL at *
      generalize hfl : y.fl = fl at *
      generalize hli : (y.li == l) = bl at *
      generalize hwo : (y.wo == o) = bo at *
      have HFL := Lib.hid hfl
      have HLI := Lib.hid hli
      have HWO := Lib.hid hwo
      clear hfl
      go_upto_region 4 with fail
      cases fl
      · cases bl
        · clear hwo
          go_wp2_with fail
          go_roundw
          case measure =>
            show ((j : Int) - 1 + 1).toNat < ((j : Int) + 1).toNat
            omega
          case rel =>
            refine ⟨j, _, by have := HJ.out; omega, rfl, by go_num, HC.out, ?_⟩
            rw [stsAt_drop HY.out, HS.out, show atP l o y = false by have h1 := HFL.out; have h2 := HLI.out; simp at h1 h2; simp [atP, h1, h2]]
            rfl
        · cases bo
          · go_wp2_with fail
            go_roundw
            case measure =>
              show ((j : Int) - 1 + 1).toNat < ((j : Int) + 1).toNat
              omega
            case rel =>
              refine ⟨j, _, by have := HJ.out; omega, rfl, by go_num, HC.out, ?_⟩
              rw [stsAt_drop HY.out, HS.out, show atP l o y = false by have h1 := HFL.out; have h2 := HLI.out; have h3 := HWO.out; simp at h1 h2 h3; simp [atP, h1, h2, h3]]
              rfl
          · go_wp2_with fail
            go_ret2
            have h0 := own_hit HY.out (l := l) (o := o) (by have h1 := HFL.out; have h2 := HLI.out; have h3 := HWO.out; simp at h1 h2 h3; simp [atP, h1, h2, h3]) HS.out
            refine ⟨?_, HC.out⟩
            rw [HV.out, HF.out, h0]; rfl
      · clear hli hwo
        go_wp2_with fail
        go_roundw
        case measure =>
          show ((j : Int) - 1 + 1).toNat < ((j : Int) + 1).toNat
          omega
        case rel =>
          refine ⟨j, _, by have := HJ.out; omega, rfl, by go_num, HC.out, ?_⟩
          rw [stsAt_drop HY.out, HS.out, show atP l o y = false by have h1 := HFL.out; simp [atP, h1]]
          rfl
theorem sentI_at {S : List (Int × Int)} {l : Int} : ∀ {j : Nat}, j ≤ S.length → (∀ k, k < j → (S.getD k (0, 0)).1 ≠ l) → sentI S l = (sentI (S.drop j) l).map (· + j)
  | 0, _, _ => by simp
  | j + 1, hj, h => by
    have ih := sentI_at (S := S) (l := l) (j := j) (by omega) (fun k hk => h k (by omega))
    rw [ih, List.drop_eq_getElem_cons (by omega : j < S.length)]
    have hn : ¬ S[j].1 = l := by
      have := h j (by omega)
      rwa [List.getD_eq_getElem?_getD, List.getElem?_eq_getElem (by omega)] at this
    unfold sentI
    rw [if_neg hn]
    cases e : sentI (S.drop (j + 1)) l with
    | none => cases hd : S.drop (j + 1) <;> simp_all [sentI]
    | some k => cases hd : S.drop (j + 1) <;> simp_all [sentI] <;> omega
def sentV (S : List (Int × Int)) (l : Int) : Int := match sentI S l with | none => -1 | some k => k
theorem rsent_any (hb : w.heap[bc]? = some (.cells (sq Ci.enc xs []) 82 (0, 0))) (hx : xs[i]? = some x) (hd : DcM w x I c) (hl : c.S.length ≤ 100000) (l v : Int) (hv : v = sentV c.S l) :
    Calls Try.prog 41 #[.pointer (some ⟨bc, i * 6, none⟩), .int .i64 l] w fun e w' => e = .returned (.int .i64 v) ∧ Chg [] w w' := by
  obtain ⟨c0, c1, c2, c3, c4, c5⟩ := ci_cells hx
  rw [hd.k] at c1
  have HB := Lib.hid hb
  have HD := Lib.hid hd
  have HV := Lib.hid hv
  clear hd hv
  go_enter Try.func41, Try.ntmps41
  go_wp2_with fail
  clear hb
  go_loopw [5] (fun i wr => ∃ j : Nat, j ≤ c.S.length ∧ i = .int .i64 j ∧ Chg [] w wr ∧ ∀ k, k < j → (c.S.getD k (0, 0)).1 ≠ l) (fun i _ => c.S.length - (intOf i).toNat)
  case atStart => exact ⟨0, Nat.zero_le _, rfl, Chg.refl _ _, fun k hk => by omega⟩
  case round =>
    obtain ⟨j, hj, rfl, hc, hs⟩ := hrel
    have hbr := hc.keep HB.out (by simp)
    have HC := Lib.hid hc
    have HS := Lib.hid hs
    clear hs
    by_cases hlt : j < c.S.length
    · obtain ⟨y, hy⟩ : ∃ y, c.S[j]? = some y := ⟨c.S[j]'hlt, List.getElem?_eq_getElem _⟩
      obtain ⟨ba, oa, hA⟩ := HD.out.hB.addr (by rw [HD.out.k]; omega)
      have hsl := HD.out.hB.chg hc (by simp)
      rw [hA] at hsl c1
      obtain ⟨cs, ty, ff, he, hi, _⟩ := hsl.elem (i := j) (ys := snE y) (by omega) (by rw [HD.out.k]; omega) (cat_part snE_len hy)
      have i0 : cs[oa + j * 2]? = some (.int .i64 y.1) := hi 0 (by omega)
      have g0 : (0 : Int) ≤ (j : Int) := by omega
      have g1 : (j : Int) < (c.S.length : Int) := by omega
      have g2 : (c.S.length : Int) ≤ 100000 := by omega
      have HY := Lib.hid hy
      have HL := Lib.hid hlt
      have hgd : c.S.getD j (0, 0) = y := by rw [List.getD_eq_getElem?_getD, hy]; rfl
      have HG := Lib.hid hgd
      clear hsl hi hc hj hlt hy hgd
      generalize hnS : c.S.length = nS at *
      have HN := Lib.hid hnS
      clear hnS
      by_cases hyl : y.1 = l
      · have t0 : (y.1 == l) = true := by simpa using hyl
        have HYL := Lib.hid hyl
        clear hyl
        go_wp2_with fail
        go_ret
        refine ⟨?_, HC.out⟩
        rw [HV.out]
        unfold sentV
        rw [sentI_at (j := j) (by rw [HN.out]; exact Nat.le_of_lt HL.out) HS.out]
        have h1 : c.S.drop j = y :: c.S.drop (j + 1) := by
          obtain ⟨h2, rfl⟩ := List.getElem?_eq_some_iff.1 HY.out
          exact List.drop_eq_getElem_cons h2
        rw [h1]
        unfold sentI
        rw [if_pos HYL.out]
        simp
      · have t0 : (y.1 == l) = false := by simpa using hyl
        have HYL := Lib.hid hyl
        clear hyl
        go_wp2_with fail
        go_roundw
        case measure =>
          show nS - ((j : Int) + 1).toNat < nS - ((j : Int)).toNat
          have := HL.out
          omega
        case rel =>
          refine ⟨j + 1, by have := HL.out; omega, by go_num, HC.out, fun k hk => ?_⟩
          by_cases hkj : k = j
          · subst hkj; rw [HG.out]; exact HYL.out
          · exact HS.out k (by omega)
    · obtain rfl : j = c.S.length := by omega
      have g1 : ¬ ((c.S.length : Nat) : Int) < (c.S.length : Int) := by omega
      go_wp2_with fail
      go_ret
      refine ⟨?_, HC.out⟩
      rw [HV.out]
      unfold sentV
      rw [sentI_at (j := c.S.length) (Nat.le_refl _) HS.out, List.drop_length]
      rfl
end
end Go.Proofs.Ytnocekhgabgffaa
end
section
namespace Go.Proofs.Ytnocekhgabgffaa
open Go.RowKit
set_option linter.unusedVariables false
set_option maxHeartbeats 1000000

set_option maxRecDepth 100000
attribute [local go_sem ↓] append_appS copy_copS clear_clrS make_mkS slice_slS lookup_lookS mput_mputS del_mdelS cell_row frozen_row heap_drew heap_drewN heap_alloc heap_past heap_setCell heap_putRow heap_setB loadEv storeEv loadBe storeBe loadSp storeSp loadNw storeNw loadLine storeLine evc_kd evc_co evc_li evc_wo evc_va bec_fl bec_li bec_wo bec_va nwC_0 nwC_1 spC_0 spC_1
attribute [local go_sem] rowCell_some rowFrozen_some rowHas_some rowIn_some rowPart_full rowPart_lit rowPut_full rowPut_lit rowSet_some size_putRow size_setB run_loadS run_storeS run_appS run_copS run_clrS run_mkS run_slS run_lookS run_mputS run_mdelS loadW_at storeW_at fit_all fit_le one_int one_bool one_pointer one_slice allOne_list putRow_new ne_size1 ne_size2 ne_size3 ne_size4 wideEv wideBe wideSp wideNw wideLine evc_size evc_one evc_ne evc_lit evc_z fold_evc bec_size bec_one bec_lit bec_ne bec_at bec_in spC_size spC_one nwC_size nwC_one nwC_ne nwC_set0 nwC_set1 nwC_lit bec_set0 bec_set1 bec_set2 bec_set3 spC_set0 spC_set1 spC_lit fold_spC spC_ne fold_nwC fold_bec fold_at vs_size vs_one ic_size ic_get
attribute [local simp ↓] heap_drew heap_drewN heap_alloc heap_past heap_setCell heap_putRow heap_setB
attribute [local simp] rowCell_some rowFrozen_some rowHas_some rowIn_some rowPart_full rowPart_lit rowPut_full rowPut_lit rowSet_some size_putRow size_setB fit_all putRow_new ne_size1 ne_size2 ne_size3 ne_size4 evc_size bec_size spC_size nwC_size vs_size fit_le
def ixS18 (t : TypeId) (x i : Value) : Sem Value := Instr.index t x i
def ixR18 (P : Program) (t : TypeId) (x i : Value) (w : World) : Result Value := (Instr.index t x i).run P w
theorem index_ixS18 (x i : Value) : Instr.index 9 x i = ixS18 9 x i := rfl
theorem run_ixS18 (P : Program) (t : TypeId) (x i : Value) (w : World) : (ixS18 t x i).run P w = ixR18 P t x i w := rfl
attribute [local go_sem ↓] index_ixS18
attribute [local go_sem] run_ixS18
theorem rhas_1 (w : World) : Calls Try.prog 38 #[.int .i64 1] w fun e w' => e = .returned (.string ⟨#[67, 76, 87]⟩) ∧ w = w' := by
  go_enter Try.func38, Try.ntmps38
  go_wp2
  go_ret
  exact ⟨rfl, rfl⟩
theorem rhas_2 (w : World) : Calls Try.prog 38 #[.int .i64 2] w fun e w' => e = .returned (.string ⟨#[67, 76, 87]⟩) ∧ w = w' := by
  go_enter Try.func38, Try.ntmps38
  go_wp2
  go_ret
  exact ⟨rfl, rfl⟩
theorem rhas_3 (w : World) : Calls Try.prog 38 #[.int .i64 3] w fun e w' => e = .returned (.string ⟨#[67, 76, 87]⟩) ∧ w = w' := by
  go_enter Try.func38, Try.ntmps38
  go_wp2
  go_ret
  exact ⟨rfl, rfl⟩
theorem rhas_4 (w : World) : Calls Try.prog 38 #[.int .i64 4] w fun e w' => e = .returned (.string ⟨#[67, 76, 87]⟩) ∧ w = w' := by
  go_enter Try.func38, Try.ntmps38
  go_wp2
  go_ret
  exact ⟨rfl, rfl⟩
theorem rhas_12 (w : World) : Calls Try.prog 38 #[.int .i64 12] w fun e w' => e = .returned (.string ⟨#[67, 76, 87]⟩) ∧ w = w' := by
  go_enter Try.func38, Try.ntmps38
  go_wp2
  go_ret
  exact ⟨rfl, rfl⟩
theorem rhas_6 (w : World) : Calls Try.prog 38 #[.int .i64 6] w fun e w' => e = .returned (.string ⟨#[67, 76]⟩) ∧ w = w' := by
  go_enter Try.func38, Try.ntmps38
  go_wp2
  go_ret
  exact ⟨rfl, rfl⟩
theorem rhas_13 (w : World) : Calls Try.prog 38 #[.int .i64 13] w fun e w' => e = .returned (.string ⟨#[67, 76]⟩) ∧ w = w' := by
  go_enter Try.func38, Try.ntmps38
  go_wp2
  go_ret
  exact ⟨rfl, rfl⟩
theorem rhas_14 (w : World) : Calls Try.prog 38 #[.int .i64 14] w fun e w' => e = .returned (.string ⟨#[67, 76]⟩) ∧ w = w' := by
  go_enter Try.func38, Try.ntmps38
  go_wp2
  go_ret
  exact ⟨rfl, rfl⟩
theorem rhas_7 (w : World) : Calls Try.prog 38 #[.int .i64 7] w fun e w' => e = .returned (.string ⟨#[67]⟩) ∧ w = w' := by
  go_enter Try.func38, Try.ntmps38
  go_wp2
  go_ret
  exact ⟨rfl, rfl⟩
theorem rhas_8 (w : World) : Calls Try.prog 38 #[.int .i64 8] w fun e w' => e = .returned (.string ⟨#[67]⟩) ∧ w = w' := by
  go_enter Try.func38, Try.ntmps38
  go_wp2
  go_ret
  exact ⟨rfl, rfl⟩
theorem rhas_9 (w : World) : Calls Try.prog 38 #[.int .i64 9] w fun e w' => e = .returned (.string ⟨#[67]⟩) ∧ w = w' := by
  go_enter Try.func38, Try.ntmps38
  go_wp2
  go_ret
  exact ⟨rfl, rfl⟩
theorem rhas_10 (w : World) : Calls Try.prog 38 #[.int .i64 10] w fun e w' => e = .returned (.string ⟨#[67]⟩) ∧ w = w' := by
  go_enter Try.func38, Try.ntmps38
  go_wp2
  go_ret
  exact ⟨rfl, rfl⟩
theorem rhas_5 (w : World) : Calls Try.prog 38 #[.int .i64 5] w fun e w' => e = .returned (.string ⟨#[76]⟩) ∧ w = w' := by
  go_enter Try.func38, Try.ntmps38
  go_wp2
  go_ret
  exact ⟨rfl, rfl⟩
theorem rhas_11 (w : World) : Calls Try.prog 38 #[.int .i64 11] w fun e w' => e = .returned (.string ⟨#[]⟩) ∧ w = w' := by
  go_enter Try.func38, Try.ntmps38
  go_wp2
  go_ret
  exact ⟨rfl, rfl⟩
theorem ix_367_0 (w : World) : ixR18 Try.prog 9 (.string ⟨#[67, 76, 87]⟩) (.int .i64 0) w = .ok (.int .u8 67) w := by kernel_rfl
theorem ix_367_1 (w : World) : ixR18 Try.prog 9 (.string ⟨#[67, 76, 87]⟩) (.int .i64 1) w = .ok (.int .u8 76) w := by kernel_rfl
theorem ix_367_2 (w : World) : ixR18 Try.prog 9 (.string ⟨#[67, 76, 87]⟩) (.int .i64 2) w = .ok (.int .u8 87) w := by kernel_rfl
theorem ix_267_0 (w : World) : ixR18 Try.prog 9 (.string ⟨#[67, 76]⟩) (.int .i64 0) w = .ok (.int .u8 67) w := by kernel_rfl
theorem ix_267_1 (w : World) : ixR18 Try.prog 9 (.string ⟨#[67, 76]⟩) (.int .i64 1) w = .ok (.int .u8 76) w := by kernel_rfl
theorem ix_167_0 (w : World) : ixR18 Try.prog 9 (.string ⟨#[67]⟩) (.int .i64 0) w = .ok (.int .u8 67) w := by kernel_rfl
theorem ix_176_0 (w : World) : ixR18 Try.prog 9 (.string ⟨#[76]⟩) (.int .i64 0) w = .ok (.int .u8 76) w := by kernel_rfl
end Go.Proofs.Ytnocekhgabgffaa
end
section
namespace Go.Proofs.Ytnocekhgabgffaa
open Go.RowKit
set_option linter.unusedVariables false
set_option maxHeartbeats 1000000

set_option maxRecDepth 100000
attribute [local go_sem ↓] append_appS copy_copS clear_clrS make_mkS slice_slS lookup_lookS mput_mputS del_mdelS cell_row frozen_row heap_drew heap_drewN heap_alloc heap_past heap_setCell heap_putRow heap_setB loadEv storeEv loadBe storeBe loadSp storeSp loadNw storeNw loadLine storeLine evc_kd evc_co evc_li evc_wo evc_va bec_fl bec_li bec_wo bec_va nwC_0 nwC_1 spC_0 spC_1
attribute [local go_sem] rowCell_some rowFrozen_some rowHas_some rowIn_some rowPart_full rowPart_lit rowPut_full rowPut_lit rowSet_some size_putRow size_setB run_loadS run_storeS run_appS run_copS run_clrS run_mkS run_slS run_lookS run_mputS run_mdelS loadW_at storeW_at fit_all fit_le one_int one_bool one_pointer one_slice allOne_list putRow_new ne_size1 ne_size2 ne_size3 ne_size4 wideEv wideBe wideSp wideNw wideLine evc_size evc_one evc_ne evc_lit evc_z fold_evc bec_size bec_one bec_lit bec_ne bec_at bec_in spC_size spC_one nwC_size nwC_one nwC_ne nwC_set0 nwC_set1 nwC_lit bec_set0 bec_set1 bec_set2 bec_set3 spC_set0 spC_set1 spC_lit fold_spC spC_ne fold_nwC fold_bec fold_at vs_size vs_one ic_size ic_get
attribute [local simp ↓] heap_drew heap_drewN heap_alloc heap_past heap_setCell heap_putRow heap_setB
attribute [local simp] rowCell_some rowFrozen_some rowHas_some rowIn_some rowPart_full rowPart_lit rowPut_full rowPut_lit rowSet_some size_putRow size_setB fit_all putRow_new ne_size1 ne_size2 ne_size3 ne_size4 evc_size bec_size spC_size nwC_size vs_size fit_le
attribute [local go_sem ↓] index_ixS18
attribute [local go_sem] run_ixS18
section
variable {z : Cf} {w : World} {q bl kb bc bp ck : Nat}
theorem there_CLW (kd co li wo va : Int) (hk1 : ¬ kd < 1) (hk2 : ¬ 14 < kd) (hh : ∀ w, Calls Try.prog 38 #[.int .i64 kd] w fun e w' => e = .returned (.string ⟨#[67, 76, 87]⟩) ∧ w = w') (hq : w.heap[q]? = some (.cells (dbc z bl kb bc bp ck) 59 (0, 0))) (r : Bool) (hr : r = (isOfB co z.m && isOfB li z.n && isOfB wo 8)) :
    Calls Try.prog 27 #[.pointer (some ⟨q, 0, none⟩), .agg (evc ⟨kd, co, li, wo, va⟩)] w fun e w' => e = .returned (.bool r) ∧ Chg [] w w' := by
  obtain ⟨n1, n2⟩ := one_new w (.cells (evc ⟨kd, co, li, wo, va⟩) 41)
  have N2 := Lib.hid n2
  have q1 := n2.keep hq (by simp)
  have N1 := Lib.hid n1
  have Q1 := Lib.hid q1
  have HH := Lib.hid hh
  have HR := Lib.hid hr
  clear n2 hq hh hr
  unfold dbc at q1 Q1
  go_enter Try.func27, Try.ntmps27
  go_upto_region 1 with fail
  generalize w.alloc (.cells (evc ⟨kd, co, li, wo, va⟩) 41) = w1 at *
  generalize w.heap.size = p at *
  go_upto_region 4 with (go_at_call 38; refine (HH.out _).mono ?_; rintro e w2 ⟨rfl, rfl⟩)
  clear HH hk1 hk2
  go_wp2_with fail
  clear n1 q1
  have ix0 := fun w => ix_367_0 w
  have ix1 := fun w => ix_367_1 w
  have ix2 := fun w => ix_367_2 w
  go_loopw [6] (fun i wr => ∃ j : Nat, j ≤ 3 ∧ i = .int .i64 j ∧ Chg [] w1 wr ∧ (0 < j → (0 ≤ co ∧ co < (z.m : Int))) ∧ (1 < j → (0 ≤ li ∧ li < (z.n : Int))) ∧ (2 < j → (0 ≤ wo ∧ wo < (8 : Int)))) (fun i _ => 3 - (intOf i).toNat)
  case atStart => exact ⟨0, Nat.zero_le _, rfl, Chg.refl _ _, fun h => absurd h (by omega), fun h => absurd h (by omega), fun h => absurd h (by omega)⟩
  case round =>
    obtain ⟨j, hj, rfl, hc, f0, f1, f2⟩ := hrel
    have n1 := hc.keep N1.out List.not_mem_nil
    have q1 := hc.keep Q1.out List.not_mem_nil
    have HC := Lib.hid hc
    have F0 := Lib.hid f0
    clear f0
    have F1 := Lib.hid f1
    clear f1
    have F2 := Lib.hid f2
    clear f2
    clear hc
    by_cases hj0 : j = 0
    · subst hj0
      by_cases hx : 0 ≤ co
      · by_cases hy : co < (z.m : Int)
        · have hx1 : ¬ co < 0 := by omega
          have hy1 : ¬ (z.m : Int) ≤ co := by omega
          have HX := Lib.hid (And.intro hx hy)
          clear hx hy
          go_upto_region 9 with fail
          go_quiet (fail)
          go_wp2_with fail
          go_roundw
          case measure => show 3 - ((0 : Int) + 1).toNat < 3 - (0 : Int).toNat; decide
          case rel => exact ⟨1, by omega, by go_num, HC.out.drewN _, fun _ => HX.out, fun h => absurd h (by omega), fun h => absurd h (by omega)⟩
        · have HX := Lib.hid hy
          have hx1 : ¬ co < 0 := by omega
          have hy1 : (z.m : Int) ≤ co := by omega
          clear hx hy
          go_upto_region 9 with fail
          go_quiet (fail)
          go_wp2_with fail
          go_ret
          refine ⟨?_, N2.out.trans (HC.out.drewN _)⟩
          rw [HR.out]
          have := HX.out
          have e0 : isOfB co (z.m) = false := by unfold isOfB; simp; omega
          simp [e0]
      · have HX := Lib.hid hx
        have hx1 : co < 0 := by omega
        clear hx
        go_upto_region 9 with fail
        go_quiet (fail)
        go_wp2_with fail
        go_ret
        refine ⟨?_, N2.out.trans (HC.out.drewN _)⟩
        rw [HR.out]
        have := HX.out
        have e0 : isOfB co (z.m) = false := by unfold isOfB; simp; omega
        simp [e0]
    by_cases hj1 : j = 1
    · subst hj1
      by_cases hx : 0 ≤ li
      · by_cases hy : li < (z.n : Int)
        · have hx1 : ¬ li < 0 := by omega
          have hy1 : ¬ (z.n : Int) ≤ li := by omega
          have HX := Lib.hid (And.intro hx hy)
          clear hx hy
          go_upto_region 12 with fail
          go_quiet (fail)
          go_wp2_with fail
          go_roundw
          case measure => show 3 - ((1 : Int) + 1).toNat < 3 - (1 : Int).toNat; decide
          case rel => exact ⟨2, by omega, by go_num, HC.out.drewN _, fun _ => F0.out (by omega), fun _ => HX.out, fun h => absurd h (by omega)⟩
        · have HX := Lib.hid hy
          have hx1 : ¬ li < 0 := by omega
          have hy1 : (z.n : Int) ≤ li := by omega
          clear hx hy
          go_upto_region 12 with fail
          go_quiet (fail)
          go_wp2_with fail
          go_ret
          refine ⟨?_, N2.out.trans (HC.out.drewN _)⟩
          rw [HR.out]
          have := HX.out
          have e0 : isOfB li (z.n) = false := by unfold isOfB; simp; omega
          simp [e0]
      · have HX := Lib.hid hx
        have hx1 : li < 0 := by omega
        clear hx
        go_upto_region 12 with fail
        go_quiet (fail)
        go_wp2_with fail
        go_ret
        refine ⟨?_, N2.out.trans (HC.out.drewN _)⟩
        rw [HR.out]
        have := HX.out
        have e0 : isOfB li (z.n) = false := by unfold isOfB; simp; omega
        simp [e0]
    by_cases hj2 : j = 2
    · subst hj2
      by_cases hx : 0 ≤ wo
      · by_cases hy : wo < (8 : Int)
        · have hx1 : ¬ wo < 0 := by omega
          have hy1 : ¬ 7 < wo := by omega
          have HX := Lib.hid (And.intro hx hy)
          clear hx hy
          go_upto_region 15 with fail
          go_wp2_with fail
          go_roundw
          case measure => show 3 - ((2 : Int) + 1).toNat < 3 - (2 : Int).toNat; decide
          case rel => exact ⟨3, by omega, by go_num, HC.out, fun _ => F0.out (by omega), fun _ => F1.out (by omega), fun _ => HX.out⟩
        · have HX := Lib.hid hy
          have hx1 : ¬ wo < 0 := by omega
          have hy1 : 7 < wo := by omega
          clear hx hy
          go_upto_region 15 with fail
          go_wp2_with fail
          go_ret
          refine ⟨?_, N2.out.trans HC.out⟩
          rw [HR.out]
          have := HX.out
          have e0 : isOfB wo 8 = false := by unfold isOfB; simp; omega
          simp [e0]
      · have HX := Lib.hid hx
        have hx1 : wo < 0 := by omega
        clear hx
        go_upto_region 15 with fail
        go_wp2_with fail
        go_ret
        refine ⟨?_, N2.out.trans HC.out⟩
        rw [HR.out]
        have := HX.out
        have e0 : isOfB wo 8 = false := by unfold isOfB; simp; omega
        simp [e0]
    · obtain rfl : j = 3 := by omega
      go_wp2_with fail
      go_ret
      refine ⟨?_, N2.out.trans HC.out⟩
      rw [HR.out]
      have e0 : isOfB co z.m = true := by have := F0.out (by omega); unfold isOfB; simp; omega
      have e1 : isOfB li z.n = true := by have := F1.out (by omega); unfold isOfB; simp; omega
      have e2 : isOfB wo 8 = true := by have := F2.out (by omega); unfold isOfB; simp; omega
      simp [e0, e1, e2]
theorem there_CL (kd co li wo va : Int) (hk1 : ¬ kd < 1) (hk2 : ¬ 14 < kd) (hh : ∀ w, Calls Try.prog 38 #[.int .i64 kd] w fun e w' => e = .returned (.string ⟨#[67, 76]⟩) ∧ w = w') (hq : w.heap[q]? = some (.cells (dbc z bl kb bc bp ck) 59 (0, 0))) (r : Bool) (hr : r = (isOfB co z.m && isOfB li z.n)) :
    Calls Try.prog 27 #[.pointer (some ⟨q, 0, none⟩), .agg (evc ⟨kd, co, li, wo, va⟩)] w fun e w' => e = .returned (.bool r) ∧ Chg [] w w' := by
  obtain ⟨n1, n2⟩ := one_new w (.cells (evc ⟨kd, co, li, wo, va⟩) 41)
  have N2 := Lib.hid n2
  have q1 := n2.keep hq (by simp)
  have N1 := Lib.hid n1
  have Q1 := Lib.hid q1
  have HH := Lib.hid hh
  have HR := Lib.hid hr
  clear n2 hq hh hr
  unfold dbc at q1 Q1
  go_enter Try.func27, Try.ntmps27
  go_upto_region 1 with fail
  generalize w.alloc (.cells (evc ⟨kd, co, li, wo, va⟩) 41) = w1 at *
  generalize w.heap.size = p at *
  go_upto_region 4 with (go_at_call 38; refine (HH.out _).mono ?_; rintro e w2 ⟨rfl, rfl⟩)
  clear HH hk1 hk2
  go_wp2_with fail
  clear n1 q1
  have ix0 := fun w => ix_267_0 w
  have ix1 := fun w => ix_267_1 w
  go_loopw [6] (fun i wr => ∃ j : Nat, j ≤ 2 ∧ i = .int .i64 j ∧ Chg [] w1 wr ∧ (0 < j → (0 ≤ co ∧ co < (z.m : Int))) ∧ (1 < j → (0 ≤ li ∧ li < (z.n : Int)))) (fun i _ => 2 - (intOf i).toNat)
  case atStart => exact ⟨0, Nat.zero_le _, rfl, Chg.refl _ _, fun h => absurd h (by omega), fun h => absurd h (by omega)⟩
  case round =>
    obtain ⟨j, hj, rfl, hc, f0, f1⟩ := hrel
    have n1 := hc.keep N1.out List.not_mem_nil
    have q1 := hc.keep Q1.out List.not_mem_nil
    have HC := Lib.hid hc
    have F0 := Lib.hid f0
    clear f0
    have F1 := Lib.hid f1
    clear f1
    clear hc
    by_cases hj0 : j = 0
    · subst hj0
      by_cases hx : 0 ≤ co
      · by_cases hy : co < (z.m : Int)
        · have hx1 : ¬ co < 0 := by omega
          have hy1 : ¬ (z.m : Int) ≤ co := by omega
          have HX := Lib.hid (And.intro hx hy)
          clear hx hy
          go_upto_region 9 with fail
          go_quiet (fail)
          go_wp2_with fail
          go_roundw
          case measure => show 2 - ((0 : Int) + 1).toNat < 2 - (0 : Int).toNat; decide
          case rel => exact ⟨1, by omega, by go_num, HC.out.drewN _, fun _ => HX.out, fun h => absurd h (by omega)⟩
        · have HX := Lib.hid hy
          have hx1 : ¬ co < 0 := by omega
          have hy1 : (z.m : Int) ≤ co := by omega
          clear hx hy
          go_upto_region 9 with fail
          go_quiet (fail)
          go_wp2_with fail
          go_ret
          refine ⟨?_, N2.out.trans (HC.out.drewN _)⟩
          rw [HR.out]
          have := HX.out
          have e0 : isOfB co (z.m) = false := by unfold isOfB; simp; omega
          simp [e0]
      · have HX := Lib.hid hx
        have hx1 : co < 0 := by omega
        clear hx
        go_upto_region 9 with fail
        go_quiet (fail)
        go_wp2_with fail
        go_ret
        refine ⟨?_, N2.out.trans (HC.out.drewN _)⟩
        rw [HR.out]
        have := HX.out
        have e0 : isOfB co (z.m) = false := by unfold isOfB; simp; omega
        simp [e0]
    by_cases hj1 : j = 1
    · subst hj1
      by_cases hx : 0 ≤ li
      · by_cases hy : li < (z.n : Int)
        · have hx1 : ¬ li < 0 := by omega
          have hy1 : ¬ (z.n : Int) ≤ li := by omega
          have HX := Lib.hid (And.intro hx hy)
          clear hx hy
          go_upto_region 12 with fail
          go_quiet (fail)
          go_wp2_with fail
          go_roundw
          case measure => show 2 - ((1 : Int) + 1).toNat < 2 - (1 : Int).toNat; decide
          case rel => exact ⟨2, by omega, by go_num, HC.out.drewN _, fun _ => F0.out (by omega), fun _ => HX.out⟩
        · have HX := Lib.hid hy
          have hx1 : ¬ li < 0 := by omega
          have hy1 : (z.n : Int) ≤ li := by omega
          clear hx hy
          go_upto_region 12 with fail
          go_quiet (fail)
          go_wp2_with fail
          go_ret
          refine ⟨?_, N2.out.trans (HC.out.drewN _)⟩
          rw [HR.out]
          have := HX.out
          have e0 : isOfB li (z.n) = false := by unfold isOfB; simp; omega
          simp [e0]
      · have HX := Lib.hid hx
        have hx1 : li < 0 := by omega
        clear hx
        go_upto_region 12 with fail
        go_quiet (fail)
        go_wp2_with fail
        go_ret
        refine ⟨?_, N2.out.trans (HC.out.drewN _)⟩
        rw [HR.out]
        have := HX.out
        have e0 : isOfB li (z.n) = false := by unfold isOfB; simp; omega
        simp [e0]
    · obtain rfl : j = 2 := by omega
      go_wp2_with fail
      go_ret
      refine ⟨?_, N2.out.trans HC.out⟩
      rw [HR.out]
      have e0 : isOfB co z.m = true := by have := F0.out (by omega); unfold isOfB; simp; omega
      have e1 : isOfB li z.n = true := by have := F1.out (by omega); unfold isOfB; simp; omega
      simp [e0, e1]
theorem there_C (kd co li wo va : Int) (hk1 : ¬ kd < 1) (hk2 : ¬ 14 < kd) (hh : ∀ w, Calls Try.prog 38 #[.int .i64 kd] w fun e w' => e = .returned (.string ⟨#[67]⟩) ∧ w = w') (hq : w.heap[q]? = some (.cells (dbc z bl kb bc bp ck) 59 (0, 0))) (r : Bool) (hr : r = (isOfB co z.m)) :
    Calls Try.prog 27 #[.pointer (some ⟨q, 0, none⟩), .agg (evc ⟨kd, co, li, wo, va⟩)] w fun e w' => e = .returned (.bool r) ∧ Chg [] w w' := by
  obtain ⟨n1, n2⟩ := one_new w (.cells (evc ⟨kd, co, li, wo, va⟩) 41)
  have N2 := Lib.hid n2
  have q1 := n2.keep hq (by simp)
  have N1 := Lib.hid n1
  have Q1 := Lib.hid q1
  have HH := Lib.hid hh
  have HR := Lib.hid hr
  clear n2 hq hh hr
  unfold dbc at q1 Q1
  go_enter Try.func27, Try.ntmps27
  go_upto_region 1 with fail
  generalize w.alloc (.cells (evc ⟨kd, co, li, wo, va⟩) 41) = w1 at *
  generalize w.heap.size = p at *
  go_upto_region 4 with (go_at_call 38; refine (HH.out _).mono ?_; rintro e w2 ⟨rfl, rfl⟩)
  clear HH hk1 hk2
  go_wp2_with fail
  clear n1 q1
  have ix0 := fun w => ix_167_0 w
  go_loopw [6] (fun i wr => ∃ j : Nat, j ≤ 1 ∧ i = .int .i64 j ∧ Chg [] w1 wr ∧ (0 < j → (0 ≤ co ∧ co < (z.m : Int)))) (fun i _ => 1 - (intOf i).toNat)
  case atStart => exact ⟨0, Nat.zero_le _, rfl, Chg.refl _ _, fun h => absurd h (by omega)⟩
  case round =>
    obtain ⟨j, hj, rfl, hc, f0⟩ := hrel
    have n1 := hc.keep N1.out List.not_mem_nil
    have q1 := hc.keep Q1.out List.not_mem_nil
    have HC := Lib.hid hc
    have F0 := Lib.hid f0
    clear f0
    clear hc
    by_cases hj0 : j = 0
    · subst hj0
      by_cases hx : 0 ≤ co
      · by_cases hy : co < (z.m : Int)
        · have hx1 : ¬ co < 0 := by omega
          have hy1 : ¬ (z.m : Int) ≤ co := by omega
          have HX := Lib.hid (And.intro hx hy)
          clear hx hy
          go_upto_region 9 with fail
          go_quiet (fail)
          go_wp2_with fail
          go_roundw
          case measure => show 1 - ((0 : Int) + 1).toNat < 1 - (0 : Int).toNat; decide
          case rel => exact ⟨1, by omega, by go_num, HC.out.drewN _, fun _ => HX.out⟩
        · have HX := Lib.hid hy
          have hx1 : ¬ co < 0 := by omega
          have hy1 : (z.m : Int) ≤ co := by omega
          clear hx hy
          go_upto_region 9 with fail
          go_quiet (fail)
          go_wp2_with fail
          go_ret
          refine ⟨?_, N2.out.trans (HC.out.drewN _)⟩
          rw [HR.out]
          have := HX.out
          have e0 : isOfB co (z.m) = false := by unfold isOfB; simp; omega
          simp [e0]
      · have HX := Lib.hid hx
        have hx1 : co < 0 := by omega
        clear hx
        go_upto_region 9 with fail
        go_quiet (fail)
        go_wp2_with fail
        go_ret
        refine ⟨?_, N2.out.trans (HC.out.drewN _)⟩
        rw [HR.out]
        have := HX.out
        have e0 : isOfB co (z.m) = false := by unfold isOfB; simp; omega
        simp [e0]
    · obtain rfl : j = 1 := by omega
      go_wp2_with fail
      go_ret
      refine ⟨?_, N2.out.trans HC.out⟩
      rw [HR.out]
      have e0 : isOfB co z.m = true := by have := F0.out (by omega); unfold isOfB; simp; omega
      simp [e0]
theorem there_L (kd co li wo va : Int) (hk1 : ¬ kd < 1) (hk2 : ¬ 14 < kd) (hh : ∀ w, Calls Try.prog 38 #[.int .i64 kd] w fun e w' => e = .returned (.string ⟨#[76]⟩) ∧ w = w') (hq : w.heap[q]? = some (.cells (dbc z bl kb bc bp ck) 59 (0, 0))) (r : Bool) (hr : r = (isOfB li z.n)) :
    Calls Try.prog 27 #[.pointer (some ⟨q, 0, none⟩), .agg (evc ⟨kd, co, li, wo, va⟩)] w fun e w' => e = .returned (.bool r) ∧ Chg [] w w' := by
  obtain ⟨n1, n2⟩ := one_new w (.cells (evc ⟨kd, co, li, wo, va⟩) 41)
  have N2 := Lib.hid n2
  have q1 := n2.keep hq (by simp)
  have N1 := Lib.hid n1
  have Q1 := Lib.hid q1
  have HH := Lib.hid hh
  have HR := Lib.hid hr
  clear n2 hq hh hr
  unfold dbc at q1 Q1
  go_enter Try.func27, Try.ntmps27
  go_upto_region 1 with fail
  generalize w.alloc (.cells (evc ⟨kd, co, li, wo, va⟩) 41) = w1 at *
  generalize w.heap.size = p at *
  go_upto_region 4 with (go_at_call 38; refine (HH.out _).mono ?_; rintro e w2 ⟨rfl, rfl⟩)
  clear HH hk1 hk2
  go_wp2_with fail
  clear n1 q1
  have ix0 := fun w => ix_176_0 w
  go_loopw [6] (fun i wr => ∃ j : Nat, j ≤ 1 ∧ i = .int .i64 j ∧ Chg [] w1 wr ∧ (0 < j → (0 ≤ li ∧ li < (z.n : Int)))) (fun i _ => 1 - (intOf i).toNat)
  case atStart => exact ⟨0, Nat.zero_le _, rfl, Chg.refl _ _, fun h => absurd h (by omega)⟩
  case round =>
    obtain ⟨j, hj, rfl, hc, f0⟩ := hrel
    have n1 := hc.keep N1.out List.not_mem_nil
    have q1 := hc.keep Q1.out List.not_mem_nil
    have HC := Lib.hid hc
    have F0 := Lib.hid f0
    clear f0
    clear hc
    by_cases hj0 : j = 0
    · subst hj0
      by_cases hx : 0 ≤ li
      · by_cases hy : li < (z.n : Int)
        · have hx1 : ¬ li < 0 := by omega
          have hy1 : ¬ (z.n : Int) ≤ li := by omega
          have HX := Lib.hid (And.intro hx hy)
          clear hx hy
          go_upto_region 12 with fail
          go_quiet (fail)
          go_wp2_with fail
          go_roundw
          case measure => show 1 - ((0 : Int) + 1).toNat < 1 - (0 : Int).toNat; decide
          case rel => exact ⟨1, by omega, by go_num, HC.out.drewN _, fun _ => HX.out⟩
        · have HX := Lib.hid hy
          have hx1 : ¬ li < 0 := by omega
          have hy1 : (z.n : Int) ≤ li := by omega
          clear hx hy
          go_upto_region 12 with fail
          go_quiet (fail)
          go_wp2_with fail
          go_ret
          refine ⟨?_, N2.out.trans (HC.out.drewN _)⟩
          rw [HR.out]
          have := HX.out
          have e0 : isOfB li (z.n) = false := by unfold isOfB; simp; omega
          simp [e0]
      · have HX := Lib.hid hx
        have hx1 : li < 0 := by omega
        clear hx
        go_upto_region 12 with fail
        go_quiet (fail)
        go_wp2_with fail
        go_ret
        refine ⟨?_, N2.out.trans (HC.out.drewN _)⟩
        rw [HR.out]
        have := HX.out
        have e0 : isOfB li (z.n) = false := by unfold isOfB; simp; omega
        simp [e0]
    · obtain rfl : j = 1 := by omega
      go_wp2_with fail
      go_ret
      refine ⟨?_, N2.out.trans HC.out⟩
      rw [HR.out]
      have e0 : isOfB li z.n = true := by have := F0.out (by omega); unfold isOfB; simp; omega
      simp [e0]
theorem there_ (kd co li wo va : Int) (hk1 : ¬ kd < 1) (hk2 : ¬ 14 < kd) (hh : ∀ w, Calls Try.prog 38 #[.int .i64 kd] w fun e w' => e = .returned (.string ⟨#[]⟩) ∧ w = w') (hq : w.heap[q]? = some (.cells (dbc z bl kb bc bp ck) 59 (0, 0))) (r : Bool) (hr : r = (true)) :
    Calls Try.prog 27 #[.pointer (some ⟨q, 0, none⟩), .agg (evc ⟨kd, co, li, wo, va⟩)] w fun e w' => e = .returned (.bool r) ∧ Chg [] w w' := by
  obtain ⟨n1, n2⟩ := one_new w (.cells (evc ⟨kd, co, li, wo, va⟩) 41)
  have N2 := Lib.hid n2
  have q1 := n2.keep hq (by simp)
  have N1 := Lib.hid n1
  have Q1 := Lib.hid q1
  have HH := Lib.hid hh
  have HR := Lib.hid hr
  clear n2 hq hh hr
  unfold dbc at q1 Q1
  go_enter Try.func27, Try.ntmps27
  go_upto_region 1 with fail
  generalize w.alloc (.cells (evc ⟨kd, co, li, wo, va⟩) 41) = w1 at *
  generalize w.heap.size = p at *
  go_upto_region 4 with (go_at_call 38; refine (HH.out _).mono ?_; rintro e w2 ⟨rfl, rfl⟩)
  clear HH hk1 hk2
  go_wp2_with fail
  clear n1 q1
  go_loopw [6] (fun i wr => ∃ j : Nat, j ≤ 0 ∧ i = .int .i64 j ∧ Chg [] w1 wr ∧ True) (fun i _ => 0 - (intOf i).toNat)
  case atStart => exact ⟨0, Nat.zero_le _, rfl, Chg.refl _ _, trivial⟩
  case round =>
    obtain ⟨j, hj, rfl, hc, _⟩ := hrel
    have n1 := hc.keep N1.out List.not_mem_nil
    have q1 := hc.keep Q1.out List.not_mem_nil
    have HC := Lib.hid hc
    clear hc
    · obtain rfl : j = 0 := by omega
      go_wp2_with fail
      go_ret
      refine ⟨?_, N2.out.trans HC.out⟩
      rw [HR.out]
      simp []
end
end Go.Proofs.Ytnocekhgabgffaa
end
section
namespace Go.Proofs.Ytnocekhgabgffaa
open Go.RowKit
set_option linter.unusedVariables false
set_option maxHeartbeats 1000000

set_option maxRecDepth 100000
attribute [local go_sem ↓] append_appS copy_copS clear_clrS make_mkS slice_slS lookup_lookS mput_mputS del_mdelS cell_row frozen_row heap_drew heap_drewN heap_alloc heap_past heap_setCell heap_putRow heap_setB loadEv storeEv loadBe storeBe loadSp storeSp loadNw storeNw loadLine storeLine evc_kd evc_co evc_li evc_wo evc_va bec_fl bec_li bec_wo bec_va nwC_0 nwC_1 spC_0 spC_1
attribute [local go_sem] rowCell_some rowFrozen_some rowHas_some rowIn_some rowPart_full rowPart_lit rowPut_full rowPut_lit rowSet_some size_putRow size_setB run_loadS run_storeS run_appS run_copS run_clrS run_mkS run_slS run_lookS run_mputS run_mdelS loadW_at storeW_at fit_all fit_le one_int one_bool one_pointer one_slice allOne_list putRow_new ne_size1 ne_size2 ne_size3 ne_size4 wideEv wideBe wideSp wideNw wideLine evc_size evc_one evc_ne evc_lit evc_z fold_evc bec_size bec_one bec_lit bec_ne bec_at bec_in spC_size spC_one nwC_size nwC_one nwC_ne nwC_set0 nwC_set1 nwC_lit bec_set0 bec_set1 bec_set2 bec_set3 spC_set0 spC_set1 spC_lit fold_spC spC_ne fold_nwC fold_bec fold_at vs_size vs_one ic_size ic_get
attribute [local simp ↓] heap_drew heap_drewN heap_alloc heap_past heap_setCell heap_putRow heap_setB
attribute [local simp] rowCell_some rowFrozen_some rowHas_some rowIn_some rowPart_full rowPart_lit rowPut_full rowPut_lit rowSet_some size_putRow size_setB fit_all putRow_new ne_size1 ne_size2 ne_size3 ne_size4 evc_size bec_size spC_size nwC_size vs_size fit_le
theorem len_sent (ty : TypeId) (x : Value) : Builtin.len_ #[109] ty #[x] = lenMS 109 ty x := rfl
attribute [local go_sem ↓] len_sent
attribute [local go_sem] run_lenMS
theorem world_cut {Q : World → Prop} {W : World} (R : World → Prop) (h : R W) (k : ∀ w, R w → Q w) : Q W := k W h
theorem put_new {W : World} {r : Nat} {C cs : Array Value} {T : TypeId} (h : W.heap[r]? = some (.cells C T (0, 0))) (hs : cs.size = C.size) : (putRow W r 0 cs).heap[r]? = some (.cells cs T (0, 0)) := by
  rw [heap_putRow _ _ _ _ _ (by rw [h, rowHas_some, hs]; simp [Fit]), if_pos rfl, h, rowPut_full _ _ _ _ hs]
theorem settled_len (c : Bc) : c.settled = (((c.buf.length : Int) == 0) && ((c.tm.length : Int) == 0)) := by
  unfold Bc.settled
  cases c.buf <;> cases c.tm <;> simp <;> omega
theorem settled_any {w : World} {bc i : Nat} {xs : List Cx} {x : Cx} {g : List Nat} {c : Bc} (h : CoIn w bc i xs x g c) : Calls Try.prog 65 #[.pointer (some ⟨bc, i * 9, none⟩)] w fun e w' => e = .returned (.bool c.settled) ∧ w = w' := by
  obtain ⟨hb, hx, hco, _, _⟩ := h
  obtain ⟨c0, c1, c2, c3, c4, c5, c6, c7, c8⟩ := cx_cells hx
  obtain ⟨hn, _, _, Fb, hs, _, _, _, ⟨o, ho, hm⟩, htm, _⟩ := hco
  have hl : ∀ ty, lenMR Try.prog 109 ty (.map (some x.mt)) w = .ok (.int .i64 c.tm.length) w := by
    intro ty
    have := lenMR_at Try.underlying109 hm ty w ho
    rw [← htm]
    simpa [onA] using this
  rw [settled_len]
  rw [hn] at c0
  clear hn hm htm
  cases h1 : ((c.buf.length : Int) == 0)
  · go_enter Try.func65, Try.ntmps65
    go_wp2_with fail
    go_ret
    exact ⟨rfl, rfl⟩
  · go_enter Try.func65, Try.ntmps65
    go_wp2_with fail
    go_ret
    exact ⟨rfl, rfl⟩
theorem locks_any {w : World} {bc i : Nat} {xs : List Cx} {x : Cx} {g : List Nat} {c : Bc} (h : CoIn w bc i xs x g c) (l o : Int) : Calls Try.prog 64 #[.pointer (some ⟨bc, i * 9, none⟩), .agg (spC l o)] w fun e w' => e = .returned (.bool (c.locks l o)) ∧ Chg [] w w' := by
  obtain ⟨hb, hx, hco, _, _⟩ := h
  obtain ⟨c0, c1, c2, c3, c4, c5, c6, c7, c8⟩ := cx_cells hx
  obtain ⟨c9, c10⟩ := cx_ev hx 111 (0, 0)
  obtain ⟨_, _, hl, _⟩ := hco
  rw [hl] at c4 c9
  clear hl c0 c1 c2 c3 c5 c6 c7 c8
  have e0 : c.locks l o = (c.la.kd == 4 && decide ((c.la.li, c.la.wo) = (l, o))) := by
    unfold Bc.locks
    congr 1
    rw [Bool.eq_iff_iff]; simp
  rw [e0]
  have hs := fun w => spot_eq c.la.li c.la.wo l o w
  obtain ⟨n1, n2⟩ := one_new w (.cells (spC l o) 121)
  have hb := n2.keep hb (by simp)
  have N2 := Lib.hid n2
  clear e0 hx n2
  cases h4 : (c.la.kd == 4)
  · go_enter Try.func64, Try.ntmps64
    go_upto_region 1 with fail
    generalize w.alloc (.cells (spC l o) 121) = w1 at *
    generalize w.heap.size = q at *
    go_quiet (fail)
    go_wp2_with fail
    go_ret
    exact ⟨rfl, N2.out.drewN _⟩
  · generalize hd : decide ((c.la.li, c.la.wo) = (l, o)) = d at hs
    go_enter Try.func64, Try.ntmps64
    go_upto_region 1 with fail
    generalize w.alloc (.cells (spC l o) 121) = w1 at *
    generalize w.heap.size = q at *
    go_region_law (first | (go_simp; go_at_call 60; refine (spotof_any _ _).mono ?_; rintro v w3 ⟨rfl, c3⟩; have c4 := (Chg.refl [] w1).drew.trans c3; have hb3 := c4.keep hb (by simp); have n3 := c4.keep n1 (by simp); have C3 := Lib.hid c4; clear c3 c4))
    all_goals
      go_wp2_with fail
      go_ret
      subst hd
      exact ⟨rfl, N2.out.trans C3.out⟩
theorem field_nw (m v : Int) (w : World) : (Instr.field 118 (.agg (nwC m v)) 0).run Try.prog w = .ok (.int .i64 m) w := by kernel_rfl
theorem look_sm {ms : Nat} {sm : List ((Int × Int) × (Int × Int))} {o : Obj} (ho : IsMapO spV o (onA nwV sm)) (l wo : Int) :
    (∀ w', w'.heap[ms]? = some o → lookR Try.prog 107 (.map (some ms)) (.agg (spC l wo)) false w' = .ok (.agg (nwC (newO sm (l, wo)).1 (newO sm (l, wo)).2)) w') := by
  intro w' h
  have := lookR_at spot_keyE Try.underlying107 zero_new ho (l, wo) w' h
  rw [lookA_on] at this
  refine this.trans ?_
  unfold newO
  cases lookA (l, wo) sm <;> rfl
theorem put_sm {ms : Nat} {sm : List ((Int × Int) × (Int × Int))} {o : Obj} (ho : IsMapO spV o (onA nwV sm)) (l wo m v : Int) :
    ∃ o', IsMapO spV o' (onA nwV (putA (l, wo) (m, v) sm)) ∧ ∀ w', w'.heap[ms]? = some o → mputR Try.prog 107 (.map (some ms)) (.agg (spC l wo)) (.agg (nwC m v)) w' = .ok () (setB w' ms o') := by
  obtain ⟨o', h1, h2⟩ := mputR_at (b := ms) spot_keyE Try.underlying107 ho (l, wo) (nwV (m, v))
  rw [putA_on] at h1
  exact ⟨o', h1, h2⟩
theorem del_sm {ms : Nat} {sm : List ((Int × Int) × (Int × Int))} {o : Obj} (ho : IsMapO spV o (onA nwV sm)) (l wo : Int) (ty : TypeId) :
    ∃ o', IsMapO spV o' (onA nwV (dropA (l, wo) sm)) ∧ ∀ w', w'.heap[ms]? = some o → mdelR Try.prog #[107, 121] ty #[.map (some ms), .agg (spC l wo)] w' = .ok (.tuple #[]) (setB w' ms o') := by
  obtain ⟨o', h1, h2⟩ := mdelR_at (b := ms) spot_keyE Try.underlying107 ho (l, wo) ty 121
  rw [dropA_on] at h1
  exact ⟨o', h1, h2⟩
theorem put_any {w : World} {bc i : Nat} {xs : List Cx} {x : Cx} {g : List Nat} {c : Bc} {N : Nat} (h : CoIn w bc i xs x g c) (hs : c.Small N) (hN : N ≤ 1000000) (y : Be) :
    Calls Try.prog 71 #[.pointer (some ⟨bc, i * 9, none⟩), .agg (bec y)] w fun e w' => e = .returned (.tuple #[]) ∧ CoTo w bc i xs g (c.putE y) w' := by
  obtain ⟨n1, n2⟩ := one_new w (.cells (bec y) 125)
  have h1 := h.keep n2 (by simp) (by simp)
  have N2 := Lib.hid n2
  have hlt : ∀ b ∈ g, b ≠ w.heap.size := by
    intro b hb e
    have := (h.co.old b hb).lt
    omega
  have hbw : bc ≠ w.heap.size := by have := (old h.hb).lt; omega
  clear n2 h
  go_enter Try.func71, Try.ntmps71
  go_upto_region 1 with fail
  generalize w.alloc (.cells (bec y) 125) = w1 at *
  generalize w.heap.size = p at *
  have H1 := Lib.hid h1
  obtain ⟨hb, hx, ⟨hn, hst, hla, Fb, hs', hF, hv, ⟨om, hom, hmm⟩, ht, htm, hvt⟩, nd, nb⟩ := h1
  obtain ⟨c0, c1, c2, c3, c4, c5, c6, c7, c8⟩ := cx_cells hx
  have hne : x.ms ∈ g ∧ x.mt ∈ g := ⟨hF.mem_iff.2 (by simp), hF.mem_iff.2 (by simp)⟩
  have hFb : ∀ b ∈ Fb, b ∈ g := fun b hb => hF.mem_iff.2 (by simp [hb])
  have ca := ((Chg.refl [] w1).alloc (.cells (bec y) 125)).drew
  have hbs := hs.buf
  rw [hn] at c0
  obtain ⟨F', cap', A', w3, happ, hv3, hF3, hc3⟩ := (hv.keep ca (by simp)).app (ty := 108) eltBe (q := bc) ((old hb).chg ca) (fun h => nb (hFb _ h)) (be_sl (x := y) (w := (w1.alloc (.cells (bec y) 125)).drew) (b := w1.heap.size) (T := 125) (f := (0, 0)) (by simp)) (c := 1) rfl (by omega) (by unfold maxLen; omega)
  have hb3 := hc3.keep (ca.keep hb (by simp)) (fun h => nb (hFb _ h))
  have n3 := hc3.keep (ca.keep n1 (by simp)) (fun h => hlt p (hFb _ h) rfl)
  have hms : x.ms ∉ Fb := by
    have hnd := hF.nodup_iff.1 nd
    simp only [List.nodup_cons, List.mem_cons, List.mem_append] at hnd
    exact fun h => hnd.1 (.inr (.inl h))
  have hmn : x.ms ≠ bc := fun e => nb (e ▸ hne.1)
  have om3 := hc3.keep (ca.keep hom (by simp)) hms
  go_region
  have hb4 : (w3.setCell ⟨bc, i * 9, none⟩ (.slice A' (c.buf.length + 1) cap')).heap[bc]? = some (.cells (sq Cx.enc (xs.set i { x with A := A', n := c.buf.length + 1, cap := cap' }) []) 111 (0, 0)) := by
    rw [heap_setCell, if_pos rfl, hb3, rowSet_some, cx_n hx]
  have c4' : Chg [bc] w3 (w3.setCell ⟨bc, i * 9, none⟩ (.slice A' (c.buf.length + 1) cap')) := (Chg.refl [bc] w3).setCell _ _ _ (.inl (by simp))
  generalize w3.setCell ⟨bc, i * 9, none⟩ (.slice A' (c.buf.length + 1) cap') = w4 at *
  have n4 := c4'.keep n3 (by simpa using Ne.symm hbw)
  have om4 := c4'.keep om3 (by simpa using hmn)
  have hx4 : (xs.set i { x with A := A', n := c.buf.length + 1, cap := cap' })[i]? = some { x with A := A', n := c.buf.length + 1, cap := cap' } := by
    rw [List.getElem?_set_self ((List.getElem?_eq_some_iff.1 hx).1)]
  obtain ⟨d0, d1, d2, d3, d4, d5, d6, d7, d8⟩ := cx_cells hx4
  have esz : (w1.alloc (.cells (bec y) 125)).drew.heap.size = w1.heap.size + 1 := by
    show (w1.alloc (.cells (bec y) 125)).heap.size = _
    simp
  rw [esz] at hF3
  have K : ∀ w', Chg [x.ms] w4 w' → ∀ sm', MapAt spV w' x.ms (onA nwV sm') → CoTo w bc i xs g { c with buf := c.buf ++ [y], sm := sm' } w' := by
    intro w' hc sm' hmap
    have T1 : Chg (x.ms :: bc :: Fb) w1 w' := ((ca.mono (by simp)).trans (hc3.mono (l' := x.ms :: bc :: Fb) (fun z hz => .inl (by simp [hz])))).trans ((c4'.mono (fun z hz => .inl (by simp at hz; simp [hz]))).trans (hc.mono (fun z hz => .inl (by simp at hz; simp [hz]))))
    have hog : ∀ b ∈ g, b < w1.heap.size := fun b hb => (H1.out.co.old b hb).lt
    have hob := (old hb).lt
    have v4 : Vq 4 125 Be.enc w' F' A' cap' (c.buf ++ [y]) := (hv3.keep c4' (fun z hz => by
      rcases hF3 z hz with h | h
      · simp; exact fun e => nb (e ▸ hFb z h)
      · simp; omega)).keep hc (fun z hz => by
      rcases hF3 z hz with h | h
      · simp; exact fun e => hms (e ▸ h)
      · have := hog _ hne.1; simp; omega)
    refine (H1.out.made (buf' := c.buf ++ [y]) hF ht htm hvt T1 ?_ v4 (fun z hz => (hF3 z hz).imp id (fun h => by omega)) hmap).of N2.out
    rw [List.length_append, List.length_singleton]
    exact hc.keep hb4 (by simpa using Ne.symm hmn)
  have K9 := Lib.hid K
  have HM := Lib.hid hmm
  have hsm := hs.sm
  have OM4 := Lib.hid om4
  clear K esz hms hx4 c4' hb3 n3 hc3 hv3 hF3 hFb ca hbs happ c0 c1 c2 c3 c4 c5 c6 c7 c8 hv ht htm hvt hF hx hb hne hlt hbw d0 d2 d3 d4 d5 d6 d7 d8 n1 hom hn hst hla om3 nd nb hs hmn
  cases hf : y.fl
  · have hlk := look_sm (ms := x.ms) hmm y.li y.wo
    have hm1 : -(N : Int) ≤ (newO c.sm (y.li, y.wo)).1 ∧ (newO c.sm (y.li, y.wo)).1 ≤ N := by
      unfold newO
      cases h : lookA (y.li, y.wo) c.sm with
      | none => simp
      | some r => exact hsm _ (lookA_mem h)
    obtain ⟨hm1, hm2⟩ := hm1
    have e0 : c.putE y = { c with buf := c.buf ++ [y], sm := putA (y.li, y.wo) ((newO c.sm (y.li, y.wo)).1 + 1, y.va) c.sm } := by simp [Bc.putE, hf]
    generalize newO c.sm (y.li, y.wo) = r at *
    obtain ⟨o', ho', hput⟩ := put_sm (ms := x.ms) hmm y.li y.wo (r.1 + 1) y.va
    have hN' : (N : Int) ≤ 1000000 := by omega
    have fnw := field_nw r.1 r.2
    have c9 : Chg [x.ms] w4 (setB w4.drew x.ms o') := ((Chg.refl [x.ms] w4).drew).setB _ _ (.inl (by simp))
    have C9 := Lib.hid c9
    have HO' := Lib.hid ho'
    have E0 := Lib.hid e0
    clear c9 ho' hmm e0 hsm
    go_wp2_with fail
    go_region
    go_end0
    rw [E0.out]
    exact ⟨rfl, K9.out _ C9.out _ ⟨o', by rw [heap_setB, if_pos rfl, heap_drew, OM4.out]; rfl, HO'.out⟩⟩
  · go_wp2_with fail
    go_end0
    refine ⟨rfl, ?_⟩
    have e0 : c.putE y = { c with buf := c.buf ++ [y], sm := c.sm } := by simp [Bc.putE, hf]
    rw [e0]
    exact K9.out w4 (Chg.refl _ _) c.sm ⟨om, OM4.out, HM.out⟩
end Go.Proofs.Ytnocekhgabgffaa
end
