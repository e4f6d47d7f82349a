/- Texts of the walk, one behind the other: Onc Sba Sbb Mfj Word Wordb. No condition. -/
import Derived.Test.YtcjoinhngdfdmaaGreatDoorCNaa
import Derived.Test.YtcjoinhngdfdmaaGreatDoorCNai
import Derived.Test.YtcjoinhngdfdmaaGreatDoorCNaj
import Derived.BigQuiet
import Derived.ChangeAlike
import Derived.Deep.Cut
import Derived.Deep.CutBlock
import Derived.Deep.CutRange
import Derived.Deep.DeepCutAuto
import Derived.Deep.QuietTactic
import Derived.Deep.RegionHeld3
import Derived.Deep.RegionLaw
import Derived.Deep.RegionWith
import Derived.Defers
import Derived.Laws.LoneSync
import Derived.Laws.NewBlocks
import Derived.Laws.Pointers
import Derived.Lib.Hide
import Derived.RegionCalls
import Derived.RegionTactic
import Derived.Tactics
import Derived.Tactics2
import Derived.Test.YtcjoinhngdfdmaaGreatDoorChecked
import Derived.WalkKit
section
namespace Go.Proofs.YtcjoinhngdfdmaaGreatDoor
open Go.RowKit
set_option linter.unusedVariables false
set_option maxHeartbeats 1000000

set_option maxRecDepth 100000

/-! ### A step's cells, one by one -/
structure Stc where
  u : Int
  d : Int
  m : Int
  s : Int
  i : Ins
  g : Bool
def Stc.enc (x : Stc) : List Value := .int .u64 x.u :: .int .u32 x.d :: .int .i32 x.m :: .int .u32 x.s :: (Ins.enc x.i ++ [.bool x.g])
theorem Stc.len (x : Stc) : (Stc.enc x).length = 10 := rfl
theorem Stc.one (x : Stc) : ∀ v ∈ Stc.enc x, v.oneCell' = true := by
  intro v hv
  simp only [Stc.enc, Ins.enc, List.cons_append, List.nil_append, List.mem_cons, List.not_mem_nil, or_false] at hv
  rcases hv with rfl | rfl | rfl | rfl | rfl | rfl | rfl | rfl | rfl | rfl <;> rfl
/-- A word of a program, read or not. -/
def stp (x : Int × Bool) : Stc := ⟨x.1, stD x, 0, 0, stI x, stG x⟩
theorem splice_left {α : Type} (A ys vs : List α) (o : Nat) : splice (A ++ ys) (A.length + o) vs = A ++ splice ys o vs := by
  unfold splice
  rw [List.take_append, List.take_of_length_le (by omega), Nat.add_sub_cancel_left, List.drop_append, List.drop_eq_nil_of_le (by omega), List.nil_append]
  rw [show A.length + o + vs.length - A.length = o + vs.length by omega]
  simp
section
variable {α : Type} {enc : α → List Value} {k : Nat}
/-- Some cells of element n replaced. -/
theorem sq_put13 (hk : ∀ a, (enc a).length = k) {xs : List α} {n : Nat} {x : α} (y : α) (h : xs[n]? = some x) (r : List Value) (o : Nat) (vs : List Value) (ho : o + vs.length ≤ k) (hy : enc y = splice (enc x) o vs) :
    splice (sq enc xs r).toList (n * k + o) vs = (sq enc (xs.set n y) r).toList := by
  obtain ⟨hn, rfl⟩ := List.getElem?_eq_some_iff.1 h
  have e1 : xs = xs.take n ++ xs[n] :: xs.drop (n + 1) := by rw [← List.drop_eq_getElem_cons hn, List.take_append_drop]
  have e2 : xs.set n y = xs.take n ++ y :: xs.drop (n + 1) := List.set_eq_take_append_cons_drop.trans (if_pos hn)
  have e3 : (cat enc (xs.take n)).length = n * k := by rw [cat_length hk, List.length_take, Nat.min_eq_left (by omega)]
  rw [sq_toList, sq_toList, e2]
  conv => lhs; rw [e1]
  rw [cat_append, cat_append, cat_cons, cat_cons, List.append_assoc, List.append_assoc, ← e3, splice_left, List.append_assoc, splice_append _ _ _ _ (by rw [hk]; exact ho), ← hy, List.append_assoc]
theorem sq_putRow13 (hk : ∀ a, (enc a).length = k) {xs : List α} {n : Nat} {x : α} (y : α) (h : xs[n]? = some x) (r : List Value) (o : Nat) (vs : Array Value) (ho : o + vs.size ≤ k) (hy : enc y = splice (enc x) o vs.toList) (t : TypeId) (f : Nat × Nat) :
    rowPut (some (.cells (sq enc xs r) t f)) (n * k + o) vs = some (.cells (sq enc (xs.set n y) r) t f) := by
  rw [rowPut_some, sq_put13 hk y h r o vs.toList (by simpa using ho) hy, Array.toArray_toList]
theorem sq_setCell13 (hk : ∀ a, (enc a).length = k) {xs : List α} {n : Nat} {x : α} (y : α) (h : xs[n]? = some x) (r : List Value) (o : Nat) (v : Value) (ho : o < k) (hy : enc y = (enc x).set o v) (t : TypeId) (f : Nat × Nat) :
    rowSet (some (.cells (sq enc xs r) t f)) (n * k + o) v = some (.cells (sq enc (xs.set n y) r) t f) := by
  obtain ⟨hn, hx⟩ := List.getElem?_eq_some_iff.1 h
  have hm := mul_lt_of (k := k) hn
  have hl : n * k + o < (sq enc xs r).toList.length := by rw [Array.length_toList, sq_size hk]; omega
  have e : ∀ (l : List Value) (j : Nat), j < l.length → splice l j [v] = l.set j v := by
    intro l j hj
    rw [List.set_eq_take_append_cons_drop, if_pos hj]
    simp [splice]
  have := sq_put13 hk y h r o [v] (by simp; omega) (by rw [hy, e _ _ (by rw [hk]; exact ho)])
  rw [e _ _ hl] at this
  rw [rowSet_some]
  congr 2
  apply Array.toList_inj.1
  rw [Array.toList_setIfInBounds, this]
theorem sq_hasAt13 (hk : ∀ a, (enc a).length = k) {xs : List α} {n : Nat} (hn : n < xs.length) (r : List Value) (t : TypeId) (o m : Nat) (hm : o + m ≤ k) :
    rowHas (some (.cells (sq enc xs r) t (0, 0))) (n * k + o) m = true := by
  have h1 := mul_lt_of (k := k) hn
  rw [rowHas_some, sq_size hk]
  exact decide_eq_true (show _ ≤ _ by omega)
end
/-- The steps of a program in their block. -/
def Sts (w : World) (b : Nat) (xs : List Stc) : Prop := w.heap[b]? = some (.cells (sq Stc.enc xs []) 169 (0, 0))
section
variable {w : World} {b n : Nat} {xs : List Stc} {x : Stc} (h : Sts w b xs) (hx : xs[n]? = some x)
include h
theorem Sts.keep {w' : World} {l : List Nat} (hc : Chg l w w') (hb : b ∉ l) : Sts w' b xs := hc.keep h hb
theorem Sts.fz (o : Nat) : w.frozen? ⟨b, o, none⟩ = false := by rw [frozen_row, show w.heap[b]? = _ from h, rowFrozen_some]
include hx
theorem Sts.cell (o : Nat) (ho : o < 10) : w.cell? ⟨b, n * 10 + o, none⟩ = (Stc.enc x)[o]? := by
  rw [cell_row, show w.heap[b]? = _ from h, rowCell_some, sq_cell Stc.len hx [] o ho]
theorem Sts.done : w.cell? ⟨b, n * 10 + 1, none⟩ = some (.int .u32 x.d) := h.cell hx 1 (by omega)
theorem Sts.lock : w.cell? ⟨b, n * 10 + 2, none⟩ = some (.int .i32 x.m) := h.cell hx 2 (by omega)
theorem Sts.setDone (v : Int) : Sts (w.setCell ⟨b, n * 10 + 1, none⟩ (.int .u32 v)) b (xs.set n { x with d := v }) := by
  unfold Sts
  rw [heap_setCell, if_pos rfl, show w.heap[b]? = _ from h]
  exact sq_setCell13 Stc.len { x with d := v } hx [] 1 _ (by omega) rfl _ _
theorem Sts.setLock (v : Int) : Sts (w.setCell ⟨b, n * 10 + 2, none⟩ (.int .i32 v)) b (xs.set n { x with m := v }) := by
  unfold Sts
  rw [heap_setCell, if_pos rfl, show w.heap[b]? = _ from h]
  exact sq_setCell13 Stc.len { x with m := v } hx [] 2 _ (by omega) rfl _ _
end
theorem Sts.drew {w : World} {b : Nat} {xs : List Stc} (h : Sts w b xs) : Sts w.drew b xs := h

/-! ### sync.Once: its parts -/
theorem odisable (w : World) : (callFunc 204 #[]).run Tryz.prog w = .ok (.value (.tuple #[])) w := run_call_mark0 Tryz.func204 (by kernel_rfl) (by kernel_rfl) (by kernel_rfl) .disable (by kernel_rfl) w
theorem oenable (w : World) : (callFunc 206 #[]).run Tryz.prog w = .ok (.value (.tuple #[])) w := run_call_mark0 Tryz.func206 (by kernel_rfl) (by kernel_rfl) (by kernel_rfl) .enable (by kernel_rfl) w
theorem oacquire (a : Addr) (w : World) : (callFunc 207 #[.pointer (some a)]).run Tryz.prog w = .ok (.value (.tuple #[])) w := run_call_marked Tryz.func207 (by kernel_rfl) (by kernel_rfl) (by kernel_rfl) .acquire (by kernel_rfl) a w
theorem oreleaseMerge (a : Addr) (w : World) : (callFunc 209 #[.pointer (some a)]).run Tryz.prog w = .ok (.value (.tuple #[])) w := run_call_marked Tryz.func209 (by kernel_rfl) (by kernel_rfl) (by kernel_rfl) .releaseMerge (by kernel_rfl) a w
/-- The flag is raised, as a deferred call. -/
theorem ostore (a : Addr) (x : Value) (u : FrameMode) (w : World) (hc : w.cell? a = some x) (hz : w.frozen? a = false) :
    CallsD Tryz.prog 189 #[.pointer (some a), .bool true] u w fun e u' w' => u' = u ∧ (e = .returned (.tuple #[]) ∧ w' = w.drew.setCell a (.int .u32 1)) := by
  have hc' : w.drew.cell? a = some x := by go_simp
  have hz' : w.drew.frozen? a = false := by go_simp
  have hst := run_call_store (P := Tryz.prog) Tryz.func197 (by kernel_rfl) (by kernel_rfl) (by kernel_rfl) (by kernel_rfl) (k := .u32) (y := 1) hc' hz'
  go_enter_d Tryz.func189, Tryz.ntmps189
  go_wp2
  go_region_calls
  all_goals (go_end0; exact ⟨rfl, rfl⟩)
/-- The lock is let go. -/
theorem ounlock1 (a : Addr) (w : World) (hc : w.cell? a = some (.int .i32 1)) (hz : w.frozen? a = false) :
    Calls Tryz.prog 196 #[.pointer (some a)] w fun e w' => e = .returned (.tuple #[]) ∧ w' = w.setCell a (.int .i32 0) := by
  have hd := odisable
  have he := oenable
  have hr := oreleaseMerge
  have hadd := run_call_add (P := Tryz.prog) Tryz.func210 (by kernel_rfl) (by kernel_rfl) (by kernel_rfl) .i32 (by kernel_rfl) (y := -1) (s := 0) hc hz (by simp [go_sem]; rfl)
  have hcv := run_convert_to_unsafe (P := Tryz.prog) (src := 285) (dst := 289) Tryz.underlying285 Tryz.underlying289 (by kernel_rfl) hc
  go_enter Tryz.func196, Tryz.ntmps196
  go_wp2
  go_end0
  go_wp2
theorem ounlock (a : Addr) (u : FrameMode) (w : World) (hc : w.cell? a = some (.int .i32 1)) (hz : w.frozen? a = false) :
    CallsD Tryz.prog 188 #[.pointer (some a)] u w fun e u' w' => u' = u ∧ (e = .returned (.tuple #[]) ∧ w' = w.setCell a (.int .i32 0)) := by
  have h1 := ounlock1 a w hc hz
  have H1 := Lib.hid h1
  clear h1 hc hz
  go_enter_d Tryz.func188, Tryz.ntmps188
  go_wp2_with (go_at_call 196; refine H1.out.mono ?_; rintro e w' ⟨rfl, rfl⟩)
  go_end0
  exact ⟨rfl, rfl⟩
/-- The lock is taken. -/
theorem olock1 (a : Addr) (w : World) (hc : w.cell? a = some (.int .i32 0)) (hz : w.frozen? a = false) :
    Calls Tryz.prog 195 #[.pointer (some a)] w fun e w' => e = .returned (.tuple #[]) ∧ w' = w.setCell a (.int .i32 1) := by
  have hd := odisable
  have he := oenable
  have ha := oacquire
  have hcas := run_call_cas_hit (P := Tryz.prog) Tryz.func205 (by kernel_rfl) (by kernel_rfl) (by kernel_rfl) .i32 (by kernel_rfl) (y := 1) hc hz
  have hc' : (w.setCell a (.int .i32 1)).cell? a = some (.int .i32 1) := World.cell?_setCell_same w a _ hc
  have hcv := run_convert_to_unsafe (P := Tryz.prog) (src := 285) (dst := 289) Tryz.underlying285 Tryz.underlying289 (by kernel_rfl) hc'
  go_enter Tryz.func195, Tryz.ntmps195
  go_wp2
  first | go_end0 | (simp only [Exit.inBlock, Exit.then]; refine bodyPost_ret (results_none rfl _ _ _) rfl ?_) | refine bodyPost_ret (results_none rfl _ _ _) rfl ?_
  go_wp2
theorem olock (a : Addr) (w : World) (hc : w.cell? a = some (.int .i32 0)) (hz : w.frozen? a = false) :
    Calls Tryz.prog 187 #[.pointer (some a)] w fun e w' => e = .returned (.tuple #[]) ∧ w' = w.setCell a (.int .i32 1) := by
  have h1 := olock1 a w hc hz
  have H1 := Lib.hid h1
  clear h1 hc hz
  go_enter Tryz.func187, Tryz.ntmps187
  go_wp2_with (go_at_call 195; refine H1.out.mono ?_; rintro e w' ⟨rfl, rfl⟩)
  go_end0
  exact ⟨rfl, rfl⟩
theorem oload (a : Addr) (d : Int) (w : World) (hc : w.cell? a = some (.int .u32 d)) :
    Calls Tryz.prog 170 #[.pointer (some a)] w fun e w' => e = .returned (.bool (d != 0)) ∧ w = w' := by
  have hl := run_call_load (P := Tryz.prog) Tryz.func186 (by kernel_rfl) (by kernel_rfl) (by kernel_rfl) .u32 (by kernel_rfl) hc
  go_enter Tryz.func170, Tryz.ntmps170
  go_wp2
  go_ret
  exact ⟨rfl, rfl⟩
attribute [local go_sem ↓] cell_row frozen_row heap_drew heap_drewN heap_alloc heap_past heap_setCell heap_putRow loadIns storeIns insc_op insc_a insc_b insc_c insc_im
attribute [local go_sem] rowCell_some rowFrozen_some rowHas_some rowIn_some rowPart_full rowPart_lit rowPut_full rowPut_lit rowSet_some size_putRow run_loadS run_storeS loadW_at storeW_at fit_all fit_le one_int one_bool one_pointer one_slice allOne_list putRow_new ne_size1 ne_size2 ne_size3 ne_size4 wideIns insc_size insc_one insc_ne insc_lit insc_z fold_insc insc_set0 insc_set1 insc_set2 insc_set3 insc_set4
attribute [local simp ↓] heap_drew heap_drewN heap_alloc heap_past heap_setCell heap_putRow
attribute [local simp] rowCell_some rowFrozen_some rowHas_some rowIn_some rowPart_full rowPart_lit rowPut_full rowPut_lit rowSet_some size_putRow fit_all putRow_new ne_size1 ne_size2 ne_size3 ne_size4 insc_size fit_le
/-- A word is read. -/
theorem odecode {w : World} {b n : Nat} {xs : List Stc} {x : Stc} (h : Sts w b xs) (hx : xs[n]? = some x) (h0 : 0 ≤ x.u) (h64 : x.u < 18446744073709551616) :
    Calls Tryz.prog 126 #[.pointer (some ⟨b, n * 10, none⟩)] w fun e w' => e = .returned (.tuple #[]) ∧ Chg [b] w w' ∧ Sts w' b (xs.set n { x with i := decI x.u, g := decB x.u }) := by
  have hn := (List.getElem?_eq_some_iff.1 hx).1
  have hc0 : (sq Stc.enc xs [])[n * 10]? = some (.int .u64 x.u) := sq_cell Stc.len hx [] 0 (by omega)
  have hr : rowHas (some (.cells (sq Stc.enc xs []) 169 (0, 0))) (n * 10 + 4) 5 = true := sq_hasAt13 Stc.len hn _ _ _ _ (by omega)
  have hp := sq_putRow13 Stc.len { x with i := decI x.u } hx [] 4 (insc (decI x.u)) (by rw [insc_size]; omega) rfl 169 (0, 0)
  have hx2 : (xs.set n { x with i := decI x.u })[n]? = some { x with i := decI x.u } := by rw [List.getElem?_set_self hn]
  have hc9 : (sq Stc.enc (xs.set n { x with i := decI x.u }) [])[n * 10 + 9]? = some (.bool x.g) := sq_cell Stc.len hx2 [] 9 (by omega)
  have hs := sq_setCell13 Stc.len { x with i := decI x.u, g := decB x.u } hx2 [] 9 (.bool (decB x.u)) (by omega) rfl 169 (0, 0)
  rw [List.set_set] at hs
  have HS := Lib.hid hs
  have HD := Lib.hid (fun w => idecode x.u h0 h64 w)
  have hg : ((if decB x.u = true then (0 : Int) else 11) == 0) = decB x.u := by cases decB x.u <;> rfl
  generalize (if decB x.u = true then (0 : Int) else 11) = er at HD hg
  generalize decI x.u = ii at *
  generalize decB x.u = gg at *
  generalize xs.set n { x with i := ii } = xs2 at hp hc9 HS
  generalize hxg : x.g = xg at hc9
  generalize x.u = xu at *
  have hb : w.heap[b]? = some (.cells (sq Stc.enc xs []) 169 (0, 0)) := h
  have ob : Old w b := old h
  clear h hx hn hx2 hs hxg h0 h64
  go_enter Tryz.func126, Tryz.ntmps126
  go_wp2_with fail
  refine (HD.out w).mono ?_
  rintro e w1 ⟨rfl, c1⟩
  have hb1 := c1.keep hb (by simp)
  have HC1 := Lib.hid c1
  have ob1 := ob.chg c1
  clear c1 hb hc0
  go_wp2_with fail
  go_end0
  refine ⟨rfl, (((HC1.out.mono (l' := [b]) (by simp)).alloc _).putRow b _ _ (.inl (by simp))).setCell b _ _ (.inl (by simp)), ?_⟩
  unfold Sts
  rw [heap_setCell, if_pos rfl, heap_putRow _ _ _ _ _ (by simp [hb1, hr, insc_size]), if_pos rfl]
  simp only [heap_alloc, hb1, Option.some_or, hp]
  exact HS.out

/-- What a step is, once it is read. -/
def readS (x : Stc) : Stc := { x with d := 1, i := decI x.u, g := decB x.u }
set_option maxHeartbeats 2000000 in
theorem oslow {w : World} {b n : Nat} {xs : List Stc} {x : Stc} (h : Sts w b xs) (hx : xs[n]? = some x) (hd : x.d = 0) (hm : x.m = 0) (h0 : 0 ≤ x.u) (h64 : x.u < 18446744073709551616) :
    Calls Tryz.prog 171 #[.pointer (some ⟨b, n * 10 + 1, none⟩), .func (.func 126) #[.pointer (some ⟨b, n * 10, none⟩)] #[]] w fun e w' => e = .returned (.tuple #[]) ∧ Chg [b] w w' ∧ Sts w' b (xs.set n (readS x)) := by
  have hn := (List.getElem?_eq_some_iff.1 hx).1
  have L1 := olock ⟨b, n * 10 + 2, none⟩ w (by rw [h.lock hx, hm]) (h.fz 2 |> fun _ => h.fz (n * 10 + 2))
  have s1 := h.setLock hx 1
  have hx1 : (xs.set n { x with m := 1 })[n]? = some { x with m := 1 } := List.getElem?_set_self hn
  have c1 : Chg [b] w (w.setCell ⟨b, n * 10 + 2, none⟩ (.int .i32 1)) := (Chg.refl [b] w).setCell b _ _ (.inl (by simp))
  have HL := Lib.hid L1
  have H1 := Lib.hid s1
  have HX1 := Lib.hid hx1
  have HC1 := Lib.hid c1
  have L2 := Lib.hid (oload ⟨b, n * 10 + 1, none⟩ 0 (w.setCell ⟨b, n * 10 + 2, none⟩ (.int .i32 1)) (by rw [s1.done hx1]; show some (Value.int .u32 x.d) = _; rw [hd]))
  have HD := Lib.hid (odecode s1 hx1 h0 h64)
  have HN := Lib.hid hn
  have H := Lib.hid h
  have HX := Lib.hid hx
  have HM := Lib.hid hm
  have HDD := Lib.hid hd
  clear h hx hd hm h0 h64 hn L1 s1 hx1 c1
  generalize w.setCell ⟨b, n * 10 + 2, none⟩ (.int .i32 1) = w1 at *
  go_enter_defers Tryz.func171, Tryz.ntmps171
  go_wp2_with (first | (go_at_call 187; refine HL.out.mono ?_; rintro e w' ⟨rfl, rfl⟩) | (go_at_call 170; refine L2.out.mono ?_; rintro e w' ⟨rfl, rfl⟩) | (go_at_call 126; refine HD.out.mono ?_; rintro e w2 ⟨rfl, c2, s2⟩; have HS2 := Lib.hid s2; have HC2 := Lib.hid c2; clear s2 c2))
  have hx2 : ((xs.set n { x with m := 1 }).set n { x with m := 1, i := decI x.u, g := decB x.u })[n]? = some { x with m := 1, i := decI x.u, g := decB x.u } := List.getElem?_set_self (by rw [List.length_set]; exact HN.out)
  have s2 := HS2.out
  rw [List.set_set] at s2 hx2
  have s3 := s2.drew.setDone hx2 1
  have hx3 : ((xs.set n { x with m := 1, i := decI x.u, g := decB x.u }).set n { x with m := 1, i := decI x.u, g := decB x.u, d := 1 })[n]? = some { x with m := 1, i := decI x.u, g := decB x.u, d := 1 } := List.getElem?_set_self (by rw [List.length_set]; exact HN.out)
  have s4 := s3.setLock hx3 0
  have o1 := Lib.hid (fun u => ostore ⟨b, n * 10 + 1, none⟩ _ u w2 (s2.done hx2) (s2.fz _))
  have o2 := Lib.hid (fun u => ounlock ⟨b, n * 10 + 2, none⟩ u (w2.drew.setCell ⟨b, n * 10 + 1, none⟩ (.int .u32 1)) (s3.lock hx3) (s3.fz _))
  have S4 := Lib.hid s4
  clear s2 hx2 s3 hx3 s4
  refine leaves_cons (f := 189) (args := #[.pointer (some ⟨b, n * 10 + 1, none⟩), .bool true]) (by simp) (by simp [go_sem]) ?_
  refine (o1.out .returning).mono ?_
  rintro e u' w'' ⟨rfl, rfl, rfl⟩
  refine leaves_cons (f := 188) (args := #[.pointer (some ⟨b, n * 10 + 2, none⟩)]) (by simp [settle]) (by simp [go_sem]) ?_
  refine (o2.out _).mono ?_
  rintro e u' w'' ⟨rfl, rfl, rfl⟩
  have hc := (((HC1.out.trans HC2.out).drew).setCell b (n * 10 + 1) (.int .u32 1) (.inl (by simp))).setCell b (n * 10 + 2) (.int .i32 0) (.inl (by simp))
  have hs : Sts ((w2.drew.setCell ⟨b, n * 10 + 1, none⟩ (.int .u32 1)).setCell ⟨b, n * 10 + 2, none⟩ (.int .i32 0)) b (xs.set n (readS x)) := by
    have := S4.out
    rw [List.set_set, List.set_set] at this
    rw [show readS x = { x with m := 0, i := decI x.u, g := decB x.u, d := 1 } by unfold readS; rw [← HM.out]]
    exact this
  simp [Leaves, settle, results, Tryz.results171]
  exact ⟨hc, hs⟩
/-- A word's Once: done, or not. -/
theorem odo {w : World} {b n : Nat} {xs : List Stc} {x y : Stc} (h : Sts w b xs) (hx : xs[n]? = some x) (hy : (x.d = 0 ∧ x.m = 0 ∧ y = readS x) ∨ (x.d = 1 ∧ y = x)) (h0 : 0 ≤ x.u) (h64 : x.u < 18446744073709551616) :
    Calls Tryz.prog 125 #[.pointer (some ⟨b, n * 10 + 1, none⟩), .func (.func 126) #[.pointer (some ⟨b, n * 10, none⟩)] #[]] w fun e w' => e = .returned (.tuple #[]) ∧ Chg [b] w w' ∧ Sts w' b (xs.set n y) := by
  rcases hy with ⟨hd, hm, rfl⟩ | ⟨hd, rfl⟩
  · have L := Lib.hid (oload ⟨b, n * 10 + 1, none⟩ 0 w (by rw [h.done hx, hd]))
    have S := Lib.hid (oslow h hx hd hm h0 h64)
    clear h hx hd hm h0 h64
    go_enter Tryz.func125, Tryz.ntmps125
    go_wp2_with (first | (go_at_call 170; refine L.out.mono ?_; rintro e w' ⟨rfl, rfl⟩) | (go_at_call 171; refine S.out.mono ?_; rintro e w2 ⟨rfl, c2, s2⟩; have HS2 := Lib.hid s2; have HC2 := Lib.hid c2; clear s2 c2))
    go_end0
    exact ⟨rfl, HC2.out, HS2.out⟩
  · have L := Lib.hid (oload ⟨b, n * 10 + 1, none⟩ 1 w (by rw [h.done hx, hd]))
    have e : xs.set n y = xs := by
      obtain ⟨h1, h2⟩ := List.getElem?_eq_some_iff.1 hx
      rw [← h2]; exact List.set_getElem_self h1
    rw [e]
    have HS := Lib.hid h
    clear h hx hd e
    go_enter Tryz.func125, Tryz.ntmps125
    go_wp2_with (go_at_call 170; refine L.out.mono ?_; rintro e w' ⟨rfl, rfl⟩)
    go_end0
    exact ⟨rfl, Chg.refl _ _, HS.out⟩
/-- The instruction of a step. -/
theorem oins {w : World} {b n : Nat} {pr : List (Int × Bool)} {u : Int} {r : Bool} (h : Sts w b (pr.map stp)) (hx : pr[n]? = some (u, r)) (h0 : 0 ≤ u) (h64 : u < 18446744073709551616) :
    Calls Tryz.prog 78 #[.pointer (some ⟨b, n * 10, none⟩)] w fun e w' => e = .returned (.tuple #[.agg (insc (decI u)), .bool (decB u)]) ∧ Chg [b] w w' ∧ Sts w' b ((pr.set n (u, true)).map stp) := by
  have hn := (List.getElem?_eq_some_iff.1 hx).1
  have hx1 : (pr.map stp)[n]? = some (stp (u, r)) := by rw [List.getElem?_map, hx]; rfl
  have e1 : (pr.map stp).set n (stp (u, true)) = (pr.set n (u, true)).map stp := by rw [List.map_set]
  have c1 : Chg [] w (w.alloc (.cells (insc insZ) 33)) := (Chg.refl [] w).alloc _
  have D := odo (h.keep c1 (by simp)) hx1 (y := stp (u, true)) (by
    cases r
    · exact .inl ⟨rfl, rfl, rfl⟩
    · exact .inr ⟨rfl, rfl⟩) h0 h64
  rw [e1] at D
  have HD := Lib.hid D
  have hx2 : ((pr.set n (u, true)).map stp)[n]? = some (stp (u, true)) := by rw [List.getElem?_map, List.getElem?_set_self hn]; rfl
  have hr : rowIn (some (.cells (sq Stc.enc ((pr.set n (u, true)).map stp) []) 169 (0, 0))) (n * 10 + 4) 5 = true := rowIn_sq Stc.len (by rw [List.length_map, List.length_set]; exact hn) _ _ _ _ _ (by omega)
  have hp : rowPart (some (.cells (sq Stc.enc ((pr.set n (u, true)).map stp) []) 169 (0, 0))) (n * 10 + 4) 5 = insc (decI u) := rowPart_sq Stc.len hx2 _ _ _ 4 5 (by omega)
  have hg : (sq Stc.enc ((pr.set n (u, true)).map stp) [])[n * 10 + 9]? = some (.bool (decB u)) := sq_cell Stc.len hx2 [] 9 (by omega)
  have HC1 := Lib.hid c1
  have oz : (w.alloc (.cells (insc insZ) 33)).heap[w.heap.size]? = some (.cells (insc insZ) 33 (0, 0)) := by simp
  have hb : Old w b := old h
  have hpb := Lib.hid (show w.heap.size ≠ b from by have := hb.lt; omega)
  clear h hx hx1 e1 c1 D hx2
  generalize (pr.set n (u, true)).map stp = ys at *
  generalize decI u = ii at *
  generalize decB u = gg at *
  go_enter Tryz.func78, Tryz.ntmps78
  go_wp2_with fail
  generalize hw1 : w.alloc (.cells (insc insZ) 33) = w1 at HD HC1 oz ⊢
  generalize hz : w.heap.size = p at oz hpb ⊢
  refine HD.out.mono ?_
  rintro e w2 ⟨rfl, c2, s2⟩
  have hb2 : w2.heap[b]? = some (.cells (sq Stc.enc ys []) 169 (0, 0)) := s2
  have hz2 := c2.keep oz (by simpa using hpb.out)
  have HC2 := Lib.hid ((HC1.out.mono (l' := [b]) (by simp)).trans c2)
  have HS2 := Lib.hid s2
  have ob := old hb2
  have op := old hz2
  have n1 : ¬ p = b := hpb.out
  have n2 : ¬ b = p := fun e => hpb.out e.symm
  clear c2 s2 oz hw1 HD hb
  go_wp2_with fail
  go_region
  all_goals
    go_wp2
    refine bodyPost_ret (v := .tuple #[.agg (insc ii), .bool gg]) (results_ins2 (by rfl) _ _ p ii (0, 0) (by rfl) ?_ _ (by rfl)) (by rfl) ⟨rfl, ?_, ?_⟩
    · rw [heap_putRow _ _ _ _ _ (by simp [hz2, rowHas, Fit, insc_size]), if_pos rfl]
      show rowPut (w2.heap[p]?) 0 (insc ii) = _
      rw [hz2]
      exact rowPut_full _ _ _ _ (by rw [insc_size, insc_size])
    · exact HC2.out.drew.putRow p 0 _ (.inr (by omega))
    · unfold Sts
      rw [heap_putRow _ _ _ _ _ (by simp [hz2, rowHas, Fit, insc_size]), if_neg n2]
      exact HS2.out
end Go.Proofs.YtcjoinhngdfdmaaGreatDoor
end
section
namespace Go.Proofs.YtcjoinhngdfdmaaGreatDoor
open Go.RowKit
set_option linter.unusedVariables false
set_option maxHeartbeats 1000000

theorem wideSe : Wide Tryz.prog 112 5 := ⟨⟨_, Tryz.underlying112, by rfl⟩, by kernel_rfl⟩
theorem loadSe (x : Value) : Instr.loadAt 112 x = loadS 112 5 x := rfl
theorem storeSe (x y : Value) : Instr.storeAt 112 x y = storeS 112 5 x y := rfl
theorem wideBuf : Wide Tryz.prog 157 83 := ⟨⟨_, Tryz.underlying157, by rfl⟩, by kernel_rfl⟩
theorem loadBuf (x : Value) : Instr.loadAt 157 x = loadS 157 83 x := rfl
theorem storeBuf (x y : Value) : Instr.storeAt 157 x y = storeS 157 83 x y := rfl
theorem zbuf (w : World) : (zeroValue 157).run Tryz.prog w = .ok (.agg (bfc 0 ringZ 0 0)) w := by kernel_rfl
theorem bfc_setRoom (room : Int) : (bfc 0 ringZ 0 0).setIfInBounds 0 (.int .i64 room) = bfc room ringZ 0 0 := by simp [bfc]
theorem bfc_ne (room : Int) (r : Ring) (f c : Nat) : (bfc room r f c = #[]) = False := by
  simp only [eq_iff_iff, iff_false]
  intro h
  have := congrArg Array.size h
  rw [bfc_size] at this
  cases this
theorem quiet_same12 {P : Program} {f : FuncId} {args : Array Value} {w : World} {n : Nat} {v : Value} (h : Calls P f args (w.drewN n) fun e w' => e = .returned v ∧ w.drewN n = w') : Calls P f args (w.drewN n) fun e w'' => e = .returned v ∧ ∃ m, w'' = w.drewN m :=
  h.mono fun _ _ ⟨he, hm⟩ => ⟨he, n, hm.symm⟩
attribute [local go_sem ↓] append_appS copy_copS clear_clrS make_mkS cell_row frozen_row loadSe storeSe loadBuf storeBuf heap_drew heap_drewN heap_alloc heap_past heap_setCell heap_putRow sec_kd sec_li sec_wo sec_va sec_sn bfc_room bfc_first bfc_count
attribute [local go_sem] rowCell_some rowFrozen_some rowHas_some rowIn_some rowPart_full rowPart_lit rowPut_full rowPut_lit rowSet_some size_putRow wideSe wideBuf run_loadS run_storeS run_appS run_copS run_clrS run_mkS loadW_at storeW_at fit_all fit_le fit_pl one_int one_bool one_pointer one_slice allOne_list putRow_new ne_size1 ne_size2 ne_size3 ne_size4 sec_size sec_one sec_lit sec_z sec_ne sec_set0 sec_set1 sec_set2 sec_set3 sec_set4 seZ_kd seZ_li seZ_wo seZ_va seZ_sn fold_sec bfc_size bfc_one bfc_setFirst bfc_setCount bfc_in bfc_has bfc_part bfc_put bfc_sent
attribute [local simp ↓] heap_drew heap_drewN heap_alloc heap_past heap_setCell heap_putRow
attribute [local simp] rowCell_some rowFrozen_some rowHas_some rowIn_some rowPart_full rowPart_lit rowPut_full rowPut_lit rowSet_some size_putRow fit_all fit_pl putRow_new ne_size1 ne_size2 ne_size3 ne_size4 sec_size bfc_size bfc_setFirst bfc_setCount bfc_has bfc_put bfc_sent
attribute [local go_sem ↓] zbuf
attribute [local go_sem] bfc_setRoom bfc_ne
/-! ### Whether n is from a to b; whether an entry has a form -/
theorem swithin_any (n a b : Int) (w : World) : Calls Tryz.prog 74 #[.int .i64 n, .int .i64 a, .int .i64 b] w fun e w' => e = .returned (.bool (within12 n a b)) ∧ w = w' := by
  unfold within12
  cases h1 : decide (a ≤ n)
  · go_enter Tryz.func74, Tryz.ntmps74
    go_wp2
    go_ret
    exact ⟨rfl, rfl⟩
  · go_enter Tryz.func74, Tryz.ntmps74
    go_wp2
    go_ret
    exact ⟨rfl, rfl⟩
theorem snew_ok (room : Int) (w : World) (h : within12 room 1 16 = true) : Calls Tryz.prog 37 #[.int .i64 room] w fun e w' => e = .returned (.tuple #[.pointer (some ⟨w.heap.size, 0, none⟩), .int .i64 0]) ∧ w' = w.alloc (.cells (bfc room ringZ 0 0) 157) := by
  go_enter Tryz.func37, Tryz.ntmps37
  go_wp2_with (go_at_call 74; refine (swithin_any _ _ _ _).mono ?_; rintro e w' ⟨rfl, rfl⟩)
  go_ret2
  exact ⟨rfl, rfl⟩
theorem slen_at {w : World} {q : Nat} {room : Int} {r : Ring} {f c : Nat} (hq : w.heap[q]? = some (.cells (bfc room r f c) 157 (0, 0))) : Calls Tryz.prog 76 #[.pointer (some ⟨q, 0, none⟩)] w fun e w' => e = .returned (.int .i64 c) ∧ w = w' := by
  go_enter Tryz.func76, Tryz.ntmps76
  go_wp2
  go_ret
  exact ⟨rfl, rfl⟩
theorem splace_at {w : World} {q : Nat} {room : Int} {r : Ring} {f c n : Nat} (hf : f < 16) (hn : n ≤ 1000) (hq : w.heap[q]? = some (.cells (bfc room r f c) 157 (0, 0))) : Calls Tryz.prog 124 #[.pointer (some ⟨q, 0, none⟩), .int .i64 n] w fun e w' => e = .returned (.int .i64 (pl f n)) ∧ w = w' := by
  have g1 : (f : Int) < 16 := by omega
  have g2 : (n : Int) ≤ 1000 := by omega
  go_enter Tryz.func124, Tryz.ntmps124
  go_wp2
  go_ret
  exact ⟨by rw [show ((f : Int) + n) % 16 = ((pl f n : Nat) : Int) by unfold pl; omega]; rfl, rfl⟩
theorem sat_at {w : World} {q : Nat} {room : Int} {r : Ring} {f c n : Nat} (hf : f < 16) (hn : n ≤ 1000) (hq : w.heap[q]? = some (.cells (bfc room r f c) 157 (0, 0))) : Calls Tryz.prog 77 #[.pointer (some ⟨q, 0, none⟩), .int .i64 n] w fun e w' => e = .returned (.pointer (some ⟨q, 1 + pl f n * 5, none⟩)) ∧ ∃ m, w' = w.drewN m := by
  have HF := Lib.hid hf
  have HN := Lib.hid hn
  have HQ := Lib.hid hq
  have g1 : ((pl f n : Nat) : Int) < 16 := by have := pl_lt f n; omega
  have g0 : (0 : Int) ≤ ((pl f n : Nat) : Int) := by omega
  clear hf hn
  go_enter Tryz.func77, Tryz.ntmps77
  go_wp2_with fail
  go_quiet (first | (go_at_call 124; exact quiet_same12 (splace_at HF.out HN.out HQ.out)))
  go_wp2
  go_ret
  exact ⟨rfl, _, rfl⟩

theorem sat_c {w : World} {q : Nat} {room : Int} {r : Ring} {f c n : Nat} (hf : f < 16) (hn : n ≤ 1000) (hq : w.heap[q]? = some (.cells (bfc room r f c) 157 (0, 0))) : Calls Tryz.prog 77 #[.pointer (some ⟨q, 0, none⟩), .int .i64 n] w fun e w' => e = .returned (.pointer (some ⟨q, 1 + pl f n * 5, none⟩)) ∧ Chg [] w w' :=
  (sat_at hf hn hq).mono fun _ _ ⟨he, m, hm⟩ => ⟨he, hm ▸ (Chg.refl [] w).drewN m⟩
theorem sgood_any (e : Se) (w : World) : Calls Tryz.prog 174 #[.agg (sec e)] w fun v w' => v = .returned (.bool (goodSe e)) ∧ Chg [] w w' := by
  cases h1 : within12 e.li 0 63
  · rw [show goodSe e = false by simp [goodSe, h1]]
    go_enter Tryz.func174, Tryz.ntmps174
    go_wp2_with (go_at_call 74; refine (swithin_any _ _ _ _).mono ?_; rintro e w' ⟨rfl, rfl⟩)
    go_ret
    exact ⟨rfl, (Chg.refl _ _).alloc _⟩
  cases h2 : e.sn
  case true =>
    rw [show goodSe e = false by simp [goodSe, h2]]
    go_enter Tryz.func174, Tryz.ntmps174
    go_wp2_with (go_at_call 74; refine (swithin_any _ _ _ _).mono ?_; rintro e w' ⟨rfl, rfl⟩)
    go_ret
    exact ⟨rfl, (Chg.refl _ _).alloc _⟩
  by_cases k9 : e.kd = 9
  · rw [show goodSe e = within12 e.wo 0 7 by simp [goodSe, h1, h2, k9]]
    have t9 : (e.kd == 9) = true := by simp [k9]
    clear k9
    go_enter Tryz.func174, Tryz.ntmps174
    go_wp2_with (go_at_call 74; refine (swithin_any _ _ _ _).mono ?_; rintro e w' ⟨rfl, rfl⟩)
    go_ret
    exact ⟨rfl, (Chg.refl _ _).alloc _⟩
  have t9 : (e.kd == 9) = false := by simpa using k9
  by_cases k3 : e.kd = 12 ∨ e.kd = 13 ∨ e.kd = 14
  · rw [show goodSe e = (e.wo == 0 && e.va == 0) by
      rcases k3 with k | k | k <;> simp [goodSe, h1, h2, k]]
    have h3 : (e.kd == 12) = true ∨ (e.kd == 12) = false ∧ (e.kd == 13) = true ∨ (e.kd == 12) = false ∧ (e.kd == 13) = false ∧ (e.kd == 14) = true := by
      rcases k3 with k | k | k <;> simp [k]
    clear k3 k9
    rcases h3 with t | ⟨t, u⟩ | ⟨t, u, v⟩
    all_goals
      cases h4 : (e.wo == 0)
      · go_enter Tryz.func174, Tryz.ntmps174
        go_wp2_with (go_at_call 74; refine (swithin_any _ _ _ _).mono ?_; rintro e w' ⟨rfl, rfl⟩)
        go_ret
        exact ⟨rfl, (Chg.refl _ _).alloc _⟩
      · go_enter Tryz.func174, Tryz.ntmps174
        go_wp2_with (go_at_call 74; refine (swithin_any _ _ _ _).mono ?_; rintro e w' ⟨rfl, rfl⟩)
        go_ret
        exact ⟨rfl, (Chg.refl _ _).alloc _⟩
  have ⟨t12, t13, t14⟩ : (e.kd == 12) = false ∧ (e.kd == 13) = false ∧ (e.kd == 14) = false := by simpa using k3
  rw [show goodSe e = false by simp [goodSe, t9, t12, t13, t14]]
  clear k3 k9
  go_enter Tryz.func174, Tryz.ntmps174
  go_wp2_with (go_at_call 74; refine (swithin_any _ _ _ _).mono ?_; rintro e w' ⟨rfl, rfl⟩)
  go_ret
  exact ⟨rfl, (Chg.refl _ _).alloc _⟩
/-! ### A buffer: its entries, the first one first -/
def Buf (w : World) (q room : Nat) (es : List Se) : Prop :=
  ∃ (r : Ring) (f : Nat), w.heap[q]? = some (.cells (bfc room r f es.length) 157 (0, 0)) ∧ f < 16 ∧ (∀ n e, es[n]? = some e → r.get (pl f n) = e) ∧ es.length ≤ room ∧ 1 ≤ room ∧ room ≤ 16
theorem Buf.keep {w w' : World} {q room : Nat} {es : List Se} {l : List Nat} (h : Buf w q room es) (hc : Chg l w w') (hq : q ∉ l) : Buf w' q room es := by
  obtain ⟨r, f, h1, h2⟩ := h
  exact ⟨r, f, hc.keep h1 hq, h2⟩
theorem Buf.oldq {w : World} {q room : Nat} {es : List Se} (h : Buf w q room es) : Old w q := by
  obtain ⟨r, f, h1, h2⟩ := h
  exact old h1
theorem Buf.le {w : World} {q room : Nat} {es : List Se} (h : Buf w q room es) : es.length ≤ room ∧ 1 ≤ room ∧ room ≤ 16 := by
  obtain ⟨r, f, _, _, _, h2⟩ := h
  exact h2
theorem snew_buf (room : Nat) (w : World) (h1 : 1 ≤ room) (h2 : room ≤ 16) : Calls Tryz.prog 37 #[.int .i64 room] w fun e w' => ∃ q, e = .returned (.tuple #[.pointer (some ⟨q, 0, none⟩), .int .i64 0]) ∧ w.heap.size ≤ q ∧ Chg [] w w' ∧ Buf w' q room [] :=
  (snew_ok room w (by simp [within12]; omega)).mono fun _ _ ⟨he, hw⟩ => by
    subst hw
    exact ⟨w.heap.size, he, Nat.le_refl _, (Chg.refl _ _).alloc _, ringZ, 0, by simp, by omega, by simp, by simp, h1, h2⟩
theorem slen_ok {w : World} {q room : Nat} {es : List Se} (h : Buf w q room es) : Calls Tryz.prog 76 #[.pointer (some ⟨q, 0, none⟩)] w fun e w' => e = .returned (.int .i64 es.length) ∧ w = w' := by
  obtain ⟨r, f, h1, _⟩ := h
  exact slen_at h1
/-- Behind a call that leaves the buffer with these entries. -/
def BufTo (w : World) (q room : Nat) (es : List Se) (v : Value) (e : Ending) (w' : World) : Prop := e = .returned v ∧ Chg [q] w w' ∧ Buf w' q room es
theorem ring_push {r : Ring} {f : Nat} {es : List Se} {x : Se} (h : ∀ n e, es[n]? = some e → r.get (pl f n) = e) (hl : es.length < 16) : ∀ n e, (es ++ [x])[n]? = some e → (r.put (pl f es.length) x).get (pl f n) = e := by
  intro n e hn
  rcases Nat.lt_trichotomy n es.length with h1 | h1 | h1
  · rw [List.getElem?_append_left h1] at hn
    rw [Ring.put_other _ (Ne.symm (pl_ne h1 (by omega)))]
    exact h n e hn
  · subst h1
    simp at hn
    rw [Ring.put_same _ (pl_lt _ _), hn]
  · rw [List.getElem?_eq_none (by simp; omega)] at hn
    cases hn
theorem spush_ok {w : World} {q room : Nat} {es : List Se} (x : Se) (hb : Buf w q room es) : Calls Tryz.prog 139 #[.pointer (some ⟨q, 0, none⟩), .agg (sec x)] w (BufTo w q room (sbE room es x) (.int .i64 (sbV room es x))) := by
  have HB := Lib.hid hb
  have oq := hb.oldq
  clear hb
  have hx : (w.alloc (.cells (sec x) 112)).heap[w.heap.size]? = some (.cells (sec x) 112 (0, 0)) := by simp
  have HC := Lib.hid ((Chg.refl [] w).alloc (.cells (sec x) 112))
  have ON := Lib.hid (show w.heap.size ≠ q from by have := oq.lt; omega)
  cases hg : goodSe x
  · rw [show sbE room es x = es by simp [sbE, hg], show sbV room es x = 11 by simp [sbV, hg]]
    go_enter Tryz.func139, Tryz.ntmps139
    go_wp2_with fail
    refine (sgood_any x _).mono ?_
    rintro e w1 ⟨rfl, c1⟩
    rw [hg]
    go_wp2_with fail
    go_ret
    have := HC.out.trans c1
    exact ⟨rfl, this.mono (by simp), HB.out.keep this (by simp)⟩
  by_cases hr : room ≤ es.length
  · rw [show sbE room es x = es by simp [sbE, hg, hr], show sbV room es x = 13 by simp [sbV, hg, hr]]
    have t3 : decide (room ≤ es.length) = true := by simpa using hr
    clear hr
    go_enter Tryz.func139, Tryz.ntmps139
    go_wp2_with fail
    refine (sgood_any x _).mono ?_
    rintro e w1 ⟨rfl, c1⟩
    rw [hg]
    have HC1 := Lib.hid (HC.out.trans c1)
    obtain ⟨r, f, hq, _⟩ := HB.out.keep HC1.out (by simp)
    clear c1
    go_wp2_with fail
    go_quiet (fail)
    go_wp2_with fail
    go_ret
    have := HC1.out.drewN nq
    exact ⟨rfl, this.mono (by simp), HB.out.keep this (by simp)⟩
  · rw [show sbE room es x = es ++ [x] by simp [sbE, hg, hr], show sbV room es x = 0 by simp [sbV, hg, hr]]
    have t3 : decide (room ≤ es.length) = false := by simpa using hr
    have HR := Lib.hid hr
    clear hr
    go_enter Tryz.func139, Tryz.ntmps139
    go_wp2_with fail
    refine (sgood_any x _).mono ?_
    rintro e w1 ⟨rfl, c1⟩
    rw [hg]
    have hx1 := c1.keep hx (by simp)
    have HC1 := Lib.hid (HC.out.trans c1)
    clear c1 hx
    generalize w.heap.size = p at hx1 ON ⊢
    obtain ⟨r, f, hq, hf, hall, hle⟩ := HB.out.keep HC1.out (by simp)
    have HF := Lib.hid hf
    have HA := Lib.hid hall
    have HL := Lib.hid hle
    have hn : es.length ≤ 1000 := by omega
    have g2 : (es.length : Int) ≤ 1000 := by omega
    have HN := Lib.hid hn
    clear hf hall hle hn
    go_wp2_with fail
    go_quiet (fail)
    go_wp2_with fail
    have c2 := (Chg.refl [] w1).drewN nq
    have hq2 := c2.keep hq (by simp)
    have hx2 := c2.keep hx1 (by simp)
    have HC2 := Lib.hid (HC1.out.trans c2)
    clear hq hx1 c2
    generalize w1.drewN nq = w2 at hq2 hx2 HC2 ⊢
    have oq2 := old hq2
    have ox2 := old hx2
    go_region_law
      (first | (go_simp; go_at_call 77; refine (sat_c HF.out HN.out ((Chg.refl [] w2).drew.keep hq2 (by simp))).mono ?_; rintro e w3 ⟨rfl, c3⟩; have hq3 := (((Chg.refl [] w2).drew).trans c3).keep hq2 (by simp); have hx3 := (((Chg.refl [] w2).drew).trans c3).keep hx2 (by simp)))
    all_goals
      have hq4 : (putRow w3 q (1 + pl f es.length * 5) (sec x)).heap[q]? = some (.cells (bfc room (r.put (pl f es.length) x) f es.length) 157 (0, 0)) := by
        rw [heap_putRow _ _ _ _ _ (by rw [hq3, sec_size]; exact bfc_has _ _ _ _ _ _), if_pos rfl, hq3, bfc_put]
      have HC4 := Lib.hid (((HC2.out.trans (((Chg.refl [] w2).drew).trans c3)).mono (l' := [q]) (by simp)).putRow q (1 + pl f es.length * 5) (sec x) (.inl (by simp)))
      clear hq2 hx2 hq3 hx3 c3 ox2 oq2
      generalize putRow w3 q (1 + pl f es.length * 5) (sec x) = w4 at hq4 HC4 ⊢
      go_wp2_with fail
      go_ret
      refine ⟨rfl, HC4.out.setCell _ _ _ (.inl (by simp)), r.put (pl f es.length) x, f, ?_, HF.out, ring_push HA.out (by have := HR.out; have := HL.out; omega), ?_, HL.out.2.1, HL.out.2.2⟩
      · rw [heap_setCell, if_pos rfl, hq4, rowSet_some]
        have := bfc_setCount room (r.put (pl f es.length) x) f es.length (es.length + 1)
        rw [show ((es.length : Int) + 1) = ((es.length + 1 : Nat) : Int) by omega, this, List.length_append]
        rfl
      · have := HR.out
        rw [List.length_append]
        simp only [List.length_cons, List.length_nil]
        omega
/-! ### The first entry -/
end Go.Proofs.YtcjoinhngdfdmaaGreatDoor
end
section
namespace Go.Proofs.YtcjoinhngdfdmaaGreatDoor
open Go.RowKit
set_option linter.unusedVariables false
set_option maxHeartbeats 1000000

attribute [local go_sem ↓] append_appS copy_copS clear_clrS make_mkS cell_row frozen_row loadSe storeSe loadBuf storeBuf heap_drew heap_drewN heap_alloc heap_past heap_setCell heap_putRow sec_kd sec_li sec_wo sec_va sec_sn bfc_room bfc_first bfc_count
attribute [local go_sem] rowCell_some rowFrozen_some rowHas_some rowIn_some rowPart_full rowPart_lit rowPut_full rowPut_lit rowSet_some size_putRow wideSe wideBuf run_loadS run_storeS run_appS run_copS run_clrS run_mkS loadW_at storeW_at fit_all fit_le fit_pl one_int one_bool one_pointer one_slice allOne_list putRow_new ne_size1 ne_size2 ne_size3 ne_size4 sec_size sec_one sec_lit sec_z sec_ne sec_set0 sec_set1 sec_set2 sec_set3 sec_set4 seZ_kd seZ_li seZ_wo seZ_va seZ_sn fold_sec bfc_size bfc_one bfc_setFirst bfc_setCount bfc_in bfc_has bfc_part bfc_put bfc_sent
attribute [local simp ↓] heap_drew heap_drewN heap_alloc heap_past heap_setCell heap_putRow
attribute [local simp] rowCell_some rowFrozen_some rowHas_some rowIn_some rowPart_full rowPart_lit rowPut_full rowPut_lit rowSet_some size_putRow fit_all fit_pl putRow_new ne_size1 ne_size2 ne_size3 ne_size4 sec_size bfc_size bfc_setFirst bfc_setCount bfc_has bfc_put bfc_sent
attribute [local go_sem ↓] zbuf
attribute [local go_sem] bfc_setRoom bfc_ne
/-! ### The first entry, taken out -/
/-! ### A flush that is the first entry, sent -/
/-! ### All taken out -/
/-! ### The last store of a place -/
theorem sfind_ok {w : World} {q room : Nat} {es : List Se} (li wo : Int) (hb : Buf w q room es) : Calls Tryz.prog 137 #[.pointer (some ⟨q, 0, none⟩), .int .i64 li, .int .i64 wo] w fun e w' => e = .returned (.tuple #[.int .u64 (fdV es li wo), .bool (fdB es li wo)]) ∧ Chg [] w w' := by
  have HB := Lib.hid hb
  have hl16 : (es.length : Int) ≤ 16 := by have := hb.le; omega
  clear hb
  go_enter Tryz.func137, Tryz.ntmps137
  go_wp2_with (go_at_call 76; refine (slen_ok HB.out).mono ?_; rintro e w' ⟨rfl, rfl⟩)
  go_loopw [8] (fun x wr => ∃ (k : Nat) (z : Int), k ≤ es.length ∧ z = (k : Int) - 1 ∧ x = .int .i64 z ∧ Chg [] w wr ∧ ∀ y ∈ es.drop k, isAt li wo y = false) (fun x _ => (intOf x + 1).toNat)
  case atStart => exact ⟨es.length, _, by omega, rfl, rfl, Chg.refl _ _, by simp⟩
  case round =>
    obtain ⟨k, z, hk, hz, rfl, hc, hno⟩ := hrel
    have HNO := Lib.hid hno
    have HC := Lib.hid hc
    clear hno hc
    rcases k with _ | j
    · obtain rfl : z = -1 := by omega
      clear hz
      have hn : fdO es li wo = none := fdO_none (by simpa using HNO.out)
      have HH := Lib.hid hn
      clear hn
      go_wp2_with fail
      go_ret2
      have hn := HH.out
      exact ⟨by rw [show fdV es li wo = 0 by simp [fdV, hn], show fdB es li wo = false by simp [fdB, hn]]; rfl, HC.out⟩
    · obtain rfl : z = (j : Int) := by omega
      clear hz
      obtain ⟨e, he⟩ : ∃ e, es[j]? = some e := ⟨es[j], List.getElem?_eq_getElem hk⟩
      have HE := Lib.hid he
      have g0 : (0 : Int) ≤ (j : Int) := by omega
      have g1 : (j : Int) ≤ 16 := by omega
      have HJ := Lib.hid hk
      clear he hk
      obtain ⟨r, f, hq, hf, hall, hle⟩ := HB.out.keep HC.out (by simp)
      have hget := hall j e HE.out
      have HF := Lib.hid hf
      clear hall hle hf
      go_wp2_with fail
      refine (sat_c HF.out (by omega) hq).mono ?_
      rintro a w2 ⟨rfl, c2⟩
      have hq2 := c2.keep hq (by simp)
      have oq2 := old hq2
      have HC2 := Lib.hid (HC.out.trans c2)
      have b0 : (bfc room r f es.length)[1 + pl f j * 5]? = some (.int .i64 e.kd) := hget ▸ bfc_kd _ _ _ _ _
      have b1 : (bfc room r f es.length)[1 + pl f j * 5 + 1]? = some (.int .i64 e.li) := hget ▸ bfc_li _ _ _ _ _
      have b2 : (bfc room r f es.length)[1 + pl f j * 5 + 2]? = some (.int .i64 e.wo) := hget ▸ bfc_wo _ _ _ _ _
      have b3 : (bfc room r f es.length)[1 + pl f j * 5 + 3]? = some (.int .u64 e.va) := hget ▸ bfc_va _ _ _ _ _
      clear hq c2 hget
      cases hat : isAt li wo e
      · have HN2 := Lib.hid (drop_all12 HE.out hat HNO.out)
        have hp : (e.kd == 9) = false ∨ (e.kd == 9) = true ∧ (e.li == li) = false ∨ (e.kd == 9) = true ∧ (e.li == li) = true ∧ (e.wo == wo) = false := by
          unfold isAt at hat
          cases h1 : (e.kd == 9) <;> cases h2 : (e.li == li) <;> cases h3 : (e.wo == wo) <;> simp_all
        clear hat
        rcases hp with t | ⟨t, t1⟩ | ⟨t, t1, t2⟩
        all_goals
          go_wp2_with fail
          go_roundw
          case rel => exact ⟨j, _, by have := HJ.out; omega, rfl, rfl, HC2.out, HN2.out⟩
          case measure => simp [intOf]
      · have hn : fdO es li wo = some e := fdO_some HE.out hat HNO.out
        have HH := Lib.hid hn
        obtain ⟨t, t1, t2⟩ : (e.kd == 9) = true ∧ (e.li == li) = true ∧ (e.wo == wo) = true := by simpa [isAt] using hat
        clear hn hat
        go_wp2_with fail
        go_ret2
        have hn := HH.out
        exact ⟨by rw [show fdV es li wo = e.va by simp [fdV, hn], show fdB es li wo = true by simp [fdB, hn]]; rfl, HC2.out⟩

/-! ### All entries told -/
theorem se_info : (Tryz.prog.info? 112).map (fun i => (i.zero, i.size, i.bytes)) = some (some sezV, 5, 40) := by kernel_rfl
theorem made_se (n : Nat) : madeCells sezV.cells (n * 5) = sq Se.enc (List.replicate n seZ) [] := by
  apply Array.ext
  · rw [sq_size Se.len]
    simp [madeCells]
  · intro k h1 h2
    have hk : k < n * 5 := by simpa [madeCells] using h1
    obtain ⟨i, j, hj, rfl⟩ : ∃ i j, j < 5 ∧ k = i * 5 + j := ⟨k / 5, k % 5, Nat.mod_lt _ (by omega), by omega⟩
    have hi : i < n := by omega
    have h3 := sq_cell (enc := Se.enc) Se.len (xs := List.replicate n seZ) (i := i) (a := seZ) (by simp [hi]) [] j hj
    rw [Array.getElem?_eq_getElem h2] at h3
    have h5 : j = 0 ∨ j = 1 ∨ j = 2 ∨ j = 3 ∨ j = 4 := by omega
    have h6 : (i * 5 + j) % 5 = j := by omega
    have h7 : sezV.cells.size = 5 := sezV_size
    apply Option.some.inj
    rw [h3]
    simp only [madeCells, Array.getElem_map, Array.getElem_range, h7, h6]
    rcases h5 with rfl | rfl | rfl | rfl | rfl <;> rfl
theorem run_make_se (w : World) (n : Nat) (hn : n ≤ 1000) : mkR Tryz.prog 39 (.int .i64 n) (.int .i64 n) w = .ok (.slice (some ⟨w.heap.size, 0, none⟩) n n) (w.alloc (.cells (sq Se.enc (List.replicate n seZ) []) 112)) := by
  obtain ⟨i0, hi0, hz0, hz1, hz2⟩ := info_parts se_info
  have := run_make (P := Tryz.prog) w 39 112 i0 _ Tryz.underlying39 hi0 hz0 .i64 .i64 n n (by omega) (by omega) (by rw [hz2]; omega) (by omega)
  simp only [Int.toNat_natCast, hz1] at this
  rw [← made_se]
  exact this
/-- The first k of the entries, then none. -/
def fillE (es : List Se) (k : Nat) : List Se := es.take k ++ List.replicate (es.length - k) seZ
theorem fillE_zero (es : List Se) : fillE es 0 = List.replicate es.length seZ := by simp [fillE]
theorem fillE_all (es : List Se) : fillE es es.length = es := by simp [fillE]
theorem fillE_length (es : List Se) (k : Nat) (h : k ≤ es.length) : (fillE es k).length = es.length := by simp [fillE]; omega
theorem fillE_succ {es : List Se} {k : Nat} {e : Se} (h : es[k]? = some e) : splice (fillE es k) k [e] = fillE es (k + 1) := by
  obtain ⟨hk, rfl⟩ := List.getElem?_eq_some_iff.1 h
  unfold fillE splice
  have e1 : (es.take k).length = k := by simp; omega
  obtain ⟨m, hm⟩ : ∃ m, es.length - k = m + 1 := ⟨es.length - k - 1, by omega⟩
  rw [hm, show es.length - (k + 1) = m by omega, List.take_append_of_le_length (by omega), List.take_of_length_le (by omega), List.take_succ_eq_append_getElem hk]
  rw [List.drop_append, List.drop_eq_nil_of_le (by rw [e1]; simp), e1]
  simp
/-- Entries told in a block of their own. -/
def SeTold (w : World) (es : List Se) (e : Ending) (w' : World) : Prop := ∃ b, e = .returned (.slice (some ⟨b, 0, none⟩) es.length es.length) ∧ w.heap.size ≤ b ∧ Chg [] w w' ∧ w'.heap[b]? = some (.cells (sq Se.enc es []) 112 (0, 0))
theorem sall_ok {w : World} {q room : Nat} {es : List Se} (hb : Buf w q room es) : Calls Tryz.prog 40 #[.pointer (some ⟨q, 0, none⟩)] w (SeTold w es) := by
  have HB := Lib.hid hb
  have oq := hb.oldq
  have hl16 : (es.length : Int) ≤ 16 := by have := hb.le; omega
  have hmk := run_make_se w es.length (by omega)
  have c1 := (Chg.refl [] w).alloc (.cells (sq Se.enc (List.replicate es.length seZ) []) 112)
  have hb1 : (w.alloc (.cells (sq Se.enc (List.replicate es.length seZ) []) 112)).heap[w.heap.size]? = some (.cells (sq Se.enc (List.replicate es.length seZ) []) 112 (0, 0)) := by simp
  generalize w.alloc (.cells (sq Se.enc (List.replicate es.length seZ) []) 112) = w1 at hmk c1 hb1
  have HB1 := Lib.hid hb1
  have HC1 := Lib.hid c1
  have HN := Lib.hid (show w.heap.size ≠ q by have := oq.lt; omega)
  clear hb hb1 c1
  go_enter Tryz.func40, Tryz.ntmps40
  go_wp2_with (go_at_call 76; refine (slen_ok HB.out).mono ?_; rintro e w' ⟨rfl, rfl⟩)
  generalize hp : w.heap.size = p at HB1 HN
  have HP := Lib.hid hp
  clear hp
  go_loopw [4, 10] (fun _ i wr => ∃ k : Nat, k ≤ es.length ∧ i = .int .i64 k ∧ Chg [p] w1 wr ∧ wr.heap[p]? = some (.cells (sq Se.enc (fillE es k) []) 112 (0, 0))) (fun _ i _ => es.length - (intOf i).toNat)
  case atStart => exact ⟨0, by omega, rfl, Chg.refl _ _, by rw [fillE_zero]; exact HB1.out⟩
  case round =>
    obtain ⟨k, hk, rfl, hc, hb⟩ := hrel
    have HC := Lib.hid hc
    have hb2 := (HB.out.keep HC1.out (by simp)).keep hc (by simpa using Ne.symm HN.out)
    by_cases hlt : k < es.length
    · obtain ⟨e, he⟩ : ∃ e, es[k]? = some e := ⟨es[k], List.getElem?_eq_getElem hlt⟩
      have HE := Lib.hid he
      obtain ⟨r, f, hq, hf, hall, hle⟩ := hb2
      have hget := hall k e he
      have HF := Lib.hid hf
      have HLT := Lib.hid hlt
      have g1 : (k : Int) < (es.length : Int) := by omega
      have g0 : (0 : Int) ≤ (k : Int) := by omega
      have hpart := bfc_part room r f es.length 157 (0, 0) k
      rw [hget] at hpart
      clear hall hle hf hc he hlt hget
      go_wp2_with fail
      refine (sat_c HF.out (by omega) hq).mono ?_
      rintro a w2 ⟨rfl, c2⟩
      have hq2 := c2.keep hq (by simp)
      have hb3 := c2.keep hb (by simp)
      have HC2 := Lib.hid (HC.out.trans (c2.mono (by simp)))
      have oq2 := old hq2
      have ob2 := old hb3
      have hln := fillE_length es k (by omega)
      have rh : rowHas (some (.cells (sq Se.enc (fillE es k) []) 112 (0, 0))) (k * 5) 5 = true := by
        rw [rowHas_some, sq_size Se.len, hln]; exact decide_eq_true (show _ ≤ _ by have := HLT.out; simp; omega)
      have rf : Fit (k * 5) 5 (sq Se.enc (fillE es k) []).size = True := by
        rw [sq_size Se.len, hln]; exact eq_true (show _ ≤ _ by have := HLT.out; simp; omega)
      have HR := Lib.hid rh
      have HH := Lib.hid hb3
      clear hq c2 hln hb
      go_wp2_with fail
      have h9 : (putRow w2 p (k * 5) (sec e)).heap[p]? = some (.cells (sq Se.enc (fillE es (k + 1)) []) 112 (0, 0)) := by
        rw [heap_putRow _ _ _ _ _ (by rw [HH.out, sec_size]; exact HR.out), if_pos rfl, HH.out, rowPut_some, sq_toList, sec_enc, List.toList_toArray, List.append_nil, ← cat_one (enc := Se.enc) e, cat_splice Se.len, fillE_succ HE.out]
        simp [sq]
      go_roundw
      case rel => exact ⟨k + 1, by have := HLT.out; omega, by go_num, HC2.out.putRow _ _ _ (.inl (by simp)), h9⟩
      case measure => simp [intOf]; omega
    · have : k = es.length := by omega
      subst this
      go_wp2_with fail
      go_ret
      rw [fillE_all] at hb
      exact ⟨p, rfl, by have := HP.out; omega, HC1.out.trans' HC.out (by have := HP.out; simp; omega), hb⟩
end Go.Proofs.YtcjoinhngdfdmaaGreatDoor
end
section
namespace Go.Proofs.YtcjoinhngdfdmaaGreatDoor
open Go.RowKit
set_option linter.unusedVariables false
set_option maxHeartbeats 1000000
set_option maxRecDepth 100000
attribute [local go_sem ↓] append_appS copy_copS clear_clrS make_mkS cell_row frozen_row loadLine storeLine loadSlot storeSlot heap_drew heap_drewN heap_alloc heap_past heap_setCell heap_putRow vs_get slc_st slc_li slc_us slice_slS loadMsg storeMsg loadHas storeHas msc_kd msc_li msc_di msc_ke
attribute [local go_sem] rowCell_some rowFrozen_some rowHas_some rowIn_some rowPart_full rowPart_lit rowPut_full rowPut_lit rowSet_some size_putRow vs_size vs_one wideLine wideSlot run_loadS run_storeS run_appS run_copS run_clrS run_mkS loadW_at storeW_at fit_all fit_le one_int one_bool one_pointer one_slice allOne_list putRow_new ne_size1 ne_size2 ne_size3 ne_size4 zero8_length lines_nil line_eq lit8 slc_size slc_one slc_part slc_in fold_slt fold_slc slc_set_us wideMsg wideHas run_slS msc_size msc_one msc_part msc_in fold_msc msc_putDi msc_putKe msc_putX msc_has ms4_lit
attribute [local simp ↓] heap_drew heap_drewN heap_alloc heap_past heap_setCell heap_putRow
attribute [local simp] rowCell_some rowFrozen_some rowHas_some rowIn_some rowPart_full rowPart_lit rowPut_full rowPut_lit rowSet_some size_putRow vs_size fit_all putRow_new ne_size1 ne_size2 ne_size3 ne_size4 zero8_length slc_size msc_size msc_putDi msc_putKe msc_putX msc_has fit_le
attribute [local go_sem ↓] ec_he ec_di ec_ow ec_sh ec_bu ec_by ec_wa sc_to
attribute [local go_sem] mi_and mi_or mi_not mi_beq0 mi_bne0 ec_size ec_one ec_part ec_in ec_has ec_setDi ec_setOw ec_setSh ec_setBu ec_setBy ec_setWa ec_setSh0 ec_setWa0 ec_putM sc_size sc_one sc_part sc_in
attribute [local simp] ec_size sc_size ec_setDi ec_setOw ec_setSh ec_setBu ec_setBy ec_setWa ec_setSh0 ec_setWa0 ec_putM
attribute [local go_sem ↓] loadEn storeEn loadSd storeSd en_z0
attribute [local go_sem] wideEn wideSd fold_sc size11 putRow_newB putRow_newC ms5_lit
attribute [local simp] en_z0 putRow_newB putRow_newC fit_le ec_has



attribute [local go_sem ↓] mlitZ zenc_po zenc_en zenc_q
attribute [local simp] mlitZ

theorem mem_all {z : Lay} {L : List (Po × Pt)} {k : Nat} : k ∈ z.all L ↔ (k = z.sy ∨ k = z.q ∨ k = z.g ∨ k = z.b ∨ k = z.po ∨ k = z.en ∨ (k = z.be ∧ z.be ≠ z.q)) ∨ k ∈ feet z.po L := by
  unfold Lay.all Lay.base
  simp only [List.mem_append, List.mem_cons, List.not_mem_nil, or_false, mem_opt]
  simp only [or_assoc]
/-- A system whose ports and entries are fresh. -/
theorem msd_fresh {W w w' : World} {c : Cg} {z : Lay} {es : List Ent} {xs : List Int} {C : Array Value} (he : ∀ po en : Nat, (C.setIfInBounds 8 (.slice (some ⟨po, 0, none⟩) c.co c.co)).setIfInBounds 9 (.slice (some ⟨en, 0, none⟩) c.li c.li) = (({ z with po := po, en := en } : Lay).enc c).toArray) (hW : Chg [] W w) (hs : w.heap[z.sy]? = some (.cells C 91 (0, 0))) (hsW : W.heap.size ≤ z.sy) (h6 : z.ks.length = 6)
    (hm : Sys W w z.q z.be z.g z.b c.li c.vo c.qu es xs) (hd : ([z.sy, z.q, z.g, z.b] ++ opt z.q z.be).Nodup) (hf : Fresh W w c z.sy C w') :
    ∃ po en L, Msd W w' c { z with po := po, en := en } L (List.replicate c.li enE) es xs ∧ ports L = List.replicate c.co (pt0 c) ∧ Chg [z.sy] w w' ∧ ∀ k ∈ ({ z with po := po, en := en } : Lay).all L, k ∈ [z.sy, z.q, z.g, z.b] ++ opt z.q z.be ∨ w.heap.size ≤ k := by
  obtain ⟨po, en, L, h1, h2, h3, h4, h5, hp, hn, hl, hc⟩ := hf
  have hq := hm.2.1.oldq.lt
  have hbe := hm.2.1.olde.lt
  have hg := hm.2.2.1.oldg
  have hb := hm.2.2.1.oldb
  have hsy := lt_heap hs
  have hWp := hW.size
  have hmem : ∀ k ∈ ({ z with po := po, en := en } : Lay).all L, k ∈ [z.sy, z.q, z.g, z.b] ++ opt z.q z.be ∨ w.heap.size ≤ k := by
    intro k hk
    rw [mem_all] at hk
    simp only [List.mem_append, List.mem_cons, List.not_mem_nil, or_false, mem_opt]
    dsimp only at hk
    rcases hk with (h | h | h | h | h | h | h) | h
    · simp [h]
    · simp [h]
    · simp [h]
    · simp [h]
    · exact .inr (by rw [h]; exact hl po (by simp))
    · exact .inr (by rw [h]; exact hl en (by simp))
    · exact .inl (.inr h)
    · exact .inr (hl k (by simp [h]))
  have n1 := (List.nodup_append.1 hd).1
  simp only [List.nodup_cons, List.mem_cons, List.not_mem_nil, or_false, not_or] at n1
  have n2 : z.be ≠ z.sy := by
    intro e
    by_cases hbq : z.be = z.q
    · exact n1.1.1 (by rw [← e, hbq])
    · exact (List.nodup_append.1 hd).2.2 z.sy (by simp) z.sy (mem_opt.2 ⟨e.symm, hbq⟩) rfl
  have hcw := hW.trans' hc (fun x hx => .inr (by rw [List.mem_singleton.1 hx]; exact hsW))
  have hold : ∀ k ∈ [z.sy, z.q, z.g, z.b] ++ opt z.q z.be, k < w.heap.size := by
    intro k hk
    simp only [List.mem_append, List.mem_cons, List.not_mem_nil, or_false, mem_opt] at hk
    rcases hk with (h | h | h | h) | h
    · omega
    · omega
    · omega
    · omega
    · omega
  refine ⟨po, en, L, ⟨hcw, by rw [h1, he], h6, ⟨hcw, hm.2.1.keep hc (by simp; exact fun e => n1.1.1 e.symm) (by simpa using n2), hm.2.2.1.keep hc (by simp; exact fun e => n1.1.2.1 e.symm) (by simp; exact fun e => n1.1.2.2 e.symm), hm.2.2.2⟩, h2, h3, h4, by simp, h5, ?_, ?_⟩, hp, hc, hmem⟩
  · have e1 : ({ z with po := po, en := en } : Lay).all L = [z.sy, z.q, z.g, z.b] ++ ([po, en] ++ (opt z.q z.be ++ feet po L)) := by
      unfold Lay.all Lay.base; simp
    have e2 : ([z.sy, z.q, z.g, z.b] ++ ([po, en] ++ (opt z.q z.be ++ feet po L))).Perm (([z.sy, z.q, z.g, z.b] ++ opt z.q z.be) ++ (po :: en :: feet po L)) := by
      rw [List.append_assoc]
      refine List.Perm.append_left _ ?_
      rw [← List.append_assoc]
      refine (List.Perm.append_right _ List.perm_append_comm).trans ?_
      rw [List.append_assoc]
      rfl
    rw [e1, e2.nodup_iff, List.nodup_append]
    refine ⟨hd, hn, fun a ha b hb e => ?_⟩
    have := hold a ha
    have := hl b hb
    omega
  · intro k hk
    rcases hmem k hk with h | h
    · have hn2 := hm.2.2.2.2
      simp only [List.mem_append, List.mem_cons, List.not_mem_nil, or_false, mem_opt] at h
      rcases h with (h | h | h | h) | h
      · omega
      · omega
      · omega
      · omega
      · omega
    · omega
section
variable {W : World} {c : Cg} {z : Lay} {L : List (Po × Pt)} {en : List En} {es : List Ent} {xs : List Int}
end
end Go.Proofs.YtcjoinhngdfdmaaGreatDoor
end
section
namespace Go.Proofs.YtcjoinhngdfdmaaGreatDoor
open Go.RowKit
set_option linter.unusedVariables false
set_option maxRecDepth 100000

theorem wdwithin_yes (n a b : Int) (w : World) (h0 : a ≤ n) (h1 : n ≤ b) : Calls Tryz.prog 67 #[.int .i64 n, .int .i64 a, .int .i64 b] w fun e w' => e = .returned (.bool true) ∧ w = w' := by
  go_enter Tryz.func67, Tryz.ntmps67
  go_wp2
  go_ret
  exact ⟨rfl, rfl⟩
theorem wdwithin_no (n a b : Int) (w : World) (h0 : ¬ (a ≤ n ∧ n ≤ b)) : Calls Tryz.prog 67 #[.int .i64 n, .int .i64 a, .int .i64 b] w fun e w' => e = .returned (.bool false) ∧ w = w' := by
  by_cases h : a ≤ n
  · have h7 : decide (n ≤ b) = false := by simp; omega
    clear h0
    go_enter Tryz.func67, Tryz.ntmps67
    go_wp2
    go_ret
    exact ⟨rfl, rfl⟩
  · have h7 : decide (a ≤ n) = false := by simp; omega
    clear h0
    go_enter Tryz.func67, Tryz.ntmps67
    go_wp2
    go_ret
    exact ⟨rfl, rfl⟩

theorem at_ok (n a : Int) (w : World) (h0 : 1 ≤ n) (h1 : n ≤ 64) (g0 : 0 ≤ a) (g1 : a % 8 = 0) (g2 : a / 64 < n) : Calls Tryz.prog 83 #[.int .i64 n, .int .u64 a] w fun e w' => e = .returned (.tuple #[.int .i64 (a / 64), .int .i64 (a % 64 / 8), .int .i64 0]) ∧ w = w' := by
  have g3 : a < 4096 := by omega
  have t1 : (a % 8 != 0) = false := by simp [g1]
  have t2 : decide (n ≤ a / 64) = false := by simp; omega
  clear g1
  go_enter Tryz.func83, Tryz.ntmps83
  go_wp2_with (go_at_call 67; refine (wdwithin_yes _ _ _ _ h0 h1).mono ?_; rintro e w' ⟨rfl, rfl⟩)
  go_ret3
  exact ⟨rfl, rfl⟩
theorem at_odd (n a : Int) (w : World) (h0 : 1 ≤ n) (h1 : n ≤ 64) (g0 : 0 ≤ a) (g1 : a % 8 ≠ 0) : Calls Tryz.prog 83 #[.int .i64 n, .int .u64 a] w fun e w' => e = .returned (.tuple #[.int .i64 0, .int .i64 0, .int .i64 12]) ∧ w = w' := by
  have t1 : (a % 8 != 0) = true := by simp [g1]
  clear g1
  go_enter Tryz.func83, Tryz.ntmps83
  go_wp2_with (go_at_call 67; refine (wdwithin_yes _ _ _ _ h0 h1).mono ?_; rintro e w' ⟨rfl, rfl⟩)
  go_ret3
  exact ⟨rfl, rfl⟩
end Go.Proofs.YtcjoinhngdfdmaaGreatDoor
end
section
namespace Go.Proofs.YtcjoinhngdfdmaaGreatDoor
open Go.RowKit
set_option linter.unusedVariables false
set_option maxRecDepth 100000

theorem sets_yes (n : Int) (w : World) (h : n = 1 ∨ n = 2 ∨ n = 4 ∨ n = 8) : Calls Tryz.prog 68 #[.int .i64 n] w fun e w' => e = .returned (.bool true) ∧ w = w' := by
  obtain rfl | rfl | rfl | rfl := h
  all_goals
    go_enter Tryz.func68, Tryz.ntmps68
    go_wp2
    go_ret
    exact ⟨rfl, rfl⟩
theorem sets_no (n : Int) (w : World) (h : ¬ (n = 1 ∨ n = 2 ∨ n = 4 ∨ n = 8)) : Calls Tryz.prog 68 #[.int .i64 n] w fun e w' => e = .returned (.bool false) ∧ w = w' := by
  have e1 : (n == 1) = false := by simp; omega
  have e2 : (n == 2) = false := by simp; omega
  have e3 : (n == 4) = false := by simp; omega
  have e4 : (n == 8) = false := by simp; omega
  clear h
  go_enter Tryz.func68, Tryz.ntmps68
  go_wp2
  go_ret
  exact ⟨rfl, rfl⟩

theorem good_0 (c0 c1 c2 c3 c4 c5 c6 : Int) (w : World) (h : ¬ (1 ≤ c0 ∧ c0 ≤ 8)) : Calls Tryz.prog 31 #[.agg #[.int .i64 c0, .int .i64 c1, .int .i64 c2, .int .i64 c3, .int .i64 c4, .int .i64 c5, .int .i64 c6]] w fun e w' => e = .returned (.bool false) ∧ w' = w.alloc (.cells #[.int .i64 c0, .int .i64 c1, .int .i64 c2, .int .i64 c3, .int .i64 c4, .int .i64 c5, .int .i64 c6] 28) := by
  have H := Lib.hid h
  clear h
  go_enter Tryz.func31, Tryz.ntmps31
  go_wp2_with (first
      | (go_at_call_of 67 (Value.int .i64 c0); refine (wdwithin_no _ _ _ _ H.out).mono ?_; rintro e w' ⟨rfl, rfl⟩))
  go_ret
  exact ⟨rfl, rfl⟩
theorem good_1 (c0 c1 c2 c3 c4 c5 c6 : Int) (w : World) (p0 : 1 ≤ c0) (q0 : c0 ≤ 8) (h : ¬ (2 ≤ c1 ∧ c1 ≤ 64)) : Calls Tryz.prog 31 #[.agg #[.int .i64 c0, .int .i64 c1, .int .i64 c2, .int .i64 c3, .int .i64 c4, .int .i64 c5, .int .i64 c6]] w fun e w' => e = .returned (.bool false) ∧ w' = w.alloc (.cells #[.int .i64 c0, .int .i64 c1, .int .i64 c2, .int .i64 c3, .int .i64 c4, .int .i64 c5, .int .i64 c6] 28) := by
  have H := Lib.hid h
  clear h
  go_enter Tryz.func31, Tryz.ntmps31
  go_wp2_with (first
      | (go_at_call_of 67 (Value.int .i64 c0); refine (wdwithin_yes _ _ _ _ p0 q0).mono ?_; rintro e w' ⟨rfl, rfl⟩)
      | (go_at_call_of 67 (Value.int .i64 c1); refine (wdwithin_no _ _ _ _ H.out).mono ?_; rintro e w' ⟨rfl, rfl⟩))
  go_ret
  exact ⟨rfl, rfl⟩
theorem good_2 (c0 c1 c2 c3 c4 c5 c6 : Int) (w : World) (p0 : 1 ≤ c0) (q0 : c0 ≤ 8) (p1 : 2 ≤ c1) (q1 : c1 ≤ 64) (h : ¬ (1 ≤ c2 ∧ c2 ≤ c1 - 1)) : Calls Tryz.prog 31 #[.agg #[.int .i64 c0, .int .i64 c1, .int .i64 c2, .int .i64 c3, .int .i64 c4, .int .i64 c5, .int .i64 c6]] w fun e w' => e = .returned (.bool false) ∧ w' = w.alloc (.cells #[.int .i64 c0, .int .i64 c1, .int .i64 c2, .int .i64 c3, .int .i64 c4, .int .i64 c5, .int .i64 c6] 28) := by
  have H := Lib.hid h
  clear h
  go_enter Tryz.func31, Tryz.ntmps31
  go_wp2_with (first
      | (go_at_call_of 67 (Value.int .i64 c0); refine (wdwithin_yes _ _ _ _ p0 q0).mono ?_; rintro e w' ⟨rfl, rfl⟩)
      | (go_at_call_of 67 (Value.int .i64 c1); refine (wdwithin_yes _ _ _ _ p1 q1).mono ?_; rintro e w' ⟨rfl, rfl⟩)
      | (go_at_call_of 67 (Value.int .i64 c2); refine (wdwithin_no _ _ _ _ H.out).mono ?_; rintro e w' ⟨rfl, rfl⟩))
  go_ret
  exact ⟨rfl, rfl⟩
theorem good_3 (c0 c1 c2 c3 c4 c5 c6 : Int) (w : World) (p0 : 1 ≤ c0) (q0 : c0 ≤ 8) (p1 : 2 ≤ c1) (q1 : c1 ≤ 64) (p2 : 1 ≤ c2) (q2 : c2 ≤ c1 - 1) (h : ¬ (c3 = 1 ∨ c3 = 2 ∨ c3 = 4 ∨ c3 = 8)) : Calls Tryz.prog 31 #[.agg #[.int .i64 c0, .int .i64 c1, .int .i64 c2, .int .i64 c3, .int .i64 c4, .int .i64 c5, .int .i64 c6]] w fun e w' => e = .returned (.bool false) ∧ w' = w.alloc (.cells #[.int .i64 c0, .int .i64 c1, .int .i64 c2, .int .i64 c3, .int .i64 c4, .int .i64 c5, .int .i64 c6] 28) := by
  have H := Lib.hid h
  clear h
  go_enter Tryz.func31, Tryz.ntmps31
  go_wp2_with (first
      | (go_at_call_of 67 (Value.int .i64 c0); refine (wdwithin_yes _ _ _ _ p0 q0).mono ?_; rintro e w' ⟨rfl, rfl⟩)
      | (go_at_call_of 67 (Value.int .i64 c1); refine (wdwithin_yes _ _ _ _ p1 q1).mono ?_; rintro e w' ⟨rfl, rfl⟩)
      | (go_at_call_of 67 (Value.int .i64 c2); refine (wdwithin_yes _ _ _ _ p2 q2).mono ?_; rintro e w' ⟨rfl, rfl⟩)
      | (go_at_call 68; refine (sets_no _ _ H.out).mono ?_; rintro e w' ⟨rfl, rfl⟩))
  go_ret
  exact ⟨rfl, rfl⟩
theorem good_4 (c0 c1 c2 c3 c4 c5 c6 : Int) (w : World) (p0 : 1 ≤ c0) (q0 : c0 ≤ 8) (p1 : 2 ≤ c1) (q1 : c1 ≤ 64) (p2 : 1 ≤ c2) (q2 : c2 ≤ c1 - 1) (s : c3 = 1 ∨ c3 = 2 ∨ c3 = 4 ∨ c3 = 8) (h : ¬ (1 ≤ c4 ∧ c4 ≤ 8)) : Calls Tryz.prog 31 #[.agg #[.int .i64 c0, .int .i64 c1, .int .i64 c2, .int .i64 c3, .int .i64 c4, .int .i64 c5, .int .i64 c6]] w fun e w' => e = .returned (.bool false) ∧ w' = w.alloc (.cells #[.int .i64 c0, .int .i64 c1, .int .i64 c2, .int .i64 c3, .int .i64 c4, .int .i64 c5, .int .i64 c6] 28) := by
  have H := Lib.hid h
  clear h
  have S := Lib.hid s
  clear s
  go_enter Tryz.func31, Tryz.ntmps31
  go_wp2_with (first
      | (go_at_call_of 67 (Value.int .i64 c0); refine (wdwithin_yes _ _ _ _ p0 q0).mono ?_; rintro e w' ⟨rfl, rfl⟩)
      | (go_at_call_of 67 (Value.int .i64 c1); refine (wdwithin_yes _ _ _ _ p1 q1).mono ?_; rintro e w' ⟨rfl, rfl⟩)
      | (go_at_call_of 67 (Value.int .i64 c2); refine (wdwithin_yes _ _ _ _ p2 q2).mono ?_; rintro e w' ⟨rfl, rfl⟩)
      | (go_at_call 68; refine (sets_yes _ _ S.out).mono ?_; rintro e w' ⟨rfl, rfl⟩)
      | (go_at_call_of 67 (Value.int .i64 c4); refine (wdwithin_no _ _ _ _ H.out).mono ?_; rintro e w' ⟨rfl, rfl⟩))
  go_ret
  exact ⟨rfl, rfl⟩
theorem good_5 (c0 c1 c2 c3 c4 c5 c6 : Int) (w : World) (p0 : 1 ≤ c0) (q0 : c0 ≤ 8) (p1 : 2 ≤ c1) (q1 : c1 ≤ 64) (p2 : 1 ≤ c2) (q2 : c2 ≤ c1 - 1) (s : c3 = 1 ∨ c3 = 2 ∨ c3 = 4 ∨ c3 = 8) (p4 : 1 ≤ c4) (q4 : c4 ≤ 8) (h : ¬ (1 ≤ c5 ∧ c5 ≤ 16)) : Calls Tryz.prog 31 #[.agg #[.int .i64 c0, .int .i64 c1, .int .i64 c2, .int .i64 c3, .int .i64 c4, .int .i64 c5, .int .i64 c6]] w fun e w' => e = .returned (.bool false) ∧ w' = w.alloc (.cells #[.int .i64 c0, .int .i64 c1, .int .i64 c2, .int .i64 c3, .int .i64 c4, .int .i64 c5, .int .i64 c6] 28) := by
  have H := Lib.hid h
  clear h
  have S := Lib.hid s
  clear s
  go_enter Tryz.func31, Tryz.ntmps31
  go_wp2_with (first
      | (go_at_call_of 67 (Value.int .i64 c0); refine (wdwithin_yes _ _ _ _ p0 q0).mono ?_; rintro e w' ⟨rfl, rfl⟩)
      | (go_at_call_of 67 (Value.int .i64 c1); refine (wdwithin_yes _ _ _ _ p1 q1).mono ?_; rintro e w' ⟨rfl, rfl⟩)
      | (go_at_call_of 67 (Value.int .i64 c2); refine (wdwithin_yes _ _ _ _ p2 q2).mono ?_; rintro e w' ⟨rfl, rfl⟩)
      | (go_at_call 68; refine (sets_yes _ _ S.out).mono ?_; rintro e w' ⟨rfl, rfl⟩)
      | (go_at_call_of 67 (Value.int .i64 c4); refine (wdwithin_yes _ _ _ _ p4 q4).mono ?_; rintro e w' ⟨rfl, rfl⟩)
      | (go_at_call_of 67 (Value.int .i64 c5); refine (wdwithin_no _ _ _ _ H.out).mono ?_; rintro e w' ⟨rfl, rfl⟩))
  go_ret
  exact ⟨rfl, rfl⟩
theorem good_6 (c0 c1 c2 c3 c4 c5 c6 : Int) (w : World) (p0 : 1 ≤ c0) (q0 : c0 ≤ 8) (p1 : 2 ≤ c1) (q1 : c1 ≤ 64) (p2 : 1 ≤ c2) (q2 : c2 ≤ c1 - 1) (s : c3 = 1 ∨ c3 = 2 ∨ c3 = 4 ∨ c3 = 8) (p4 : 1 ≤ c4) (q4 : c4 ≤ 8) (p5 : 1 ≤ c5) (q5 : c5 ≤ 16) (h : ¬ (1 ≤ c6 ∧ c6 ≤ 16)) : Calls Tryz.prog 31 #[.agg #[.int .i64 c0, .int .i64 c1, .int .i64 c2, .int .i64 c3, .int .i64 c4, .int .i64 c5, .int .i64 c6]] w fun e w' => e = .returned (.bool false) ∧ w' = w.alloc (.cells #[.int .i64 c0, .int .i64 c1, .int .i64 c2, .int .i64 c3, .int .i64 c4, .int .i64 c5, .int .i64 c6] 28) := by
  have H := Lib.hid h
  clear h
  have S := Lib.hid s
  clear s
  go_enter Tryz.func31, Tryz.ntmps31
  go_wp2_with (first
      | (go_at_call_of 67 (Value.int .i64 c0); refine (wdwithin_yes _ _ _ _ p0 q0).mono ?_; rintro e w' ⟨rfl, rfl⟩)
      | (go_at_call_of 67 (Value.int .i64 c1); refine (wdwithin_yes _ _ _ _ p1 q1).mono ?_; rintro e w' ⟨rfl, rfl⟩)
      | (go_at_call_of 67 (Value.int .i64 c2); refine (wdwithin_yes _ _ _ _ p2 q2).mono ?_; rintro e w' ⟨rfl, rfl⟩)
      | (go_at_call 68; refine (sets_yes _ _ S.out).mono ?_; rintro e w' ⟨rfl, rfl⟩)
      | (go_at_call_of 67 (Value.int .i64 c4); refine (wdwithin_yes _ _ _ _ p4 q4).mono ?_; rintro e w' ⟨rfl, rfl⟩)
      | (go_at_call_of 67 (Value.int .i64 c5); refine (wdwithin_yes _ _ _ _ p5 q5).mono ?_; rintro e w' ⟨rfl, rfl⟩)
      | (go_at_call_of 67 (Value.int .i64 c6); refine (wdwithin_no _ _ _ _ H.out).mono ?_; rintro e w' ⟨rfl, rfl⟩))
  go_ret
  exact ⟨rfl, rfl⟩
theorem good_7 (c0 c1 c2 c3 c4 c5 c6 : Int) (w : World) (p0 : 1 ≤ c0) (q0 : c0 ≤ 8) (p1 : 2 ≤ c1) (q1 : c1 ≤ 64) (p2 : 1 ≤ c2) (q2 : c2 ≤ c1 - 1) (s : c3 = 1 ∨ c3 = 2 ∨ c3 = 4 ∨ c3 = 8) (p4 : 1 ≤ c4) (q4 : c4 ≤ 8) (p5 : 1 ≤ c5) (q5 : c5 ≤ 16) (p6 : 1 ≤ c6) (q6 : c6 ≤ 16) : Calls Tryz.prog 31 #[.agg #[.int .i64 c0, .int .i64 c1, .int .i64 c2, .int .i64 c3, .int .i64 c4, .int .i64 c5, .int .i64 c6]] w fun e w' => e = .returned (.bool true) ∧ w' = w.alloc (.cells #[.int .i64 c0, .int .i64 c1, .int .i64 c2, .int .i64 c3, .int .i64 c4, .int .i64 c5, .int .i64 c6] 28) := by
  have S := Lib.hid s
  clear s
  go_enter Tryz.func31, Tryz.ntmps31
  go_wp2_with (first
      | (go_at_call_of 67 (Value.int .i64 c0); refine (wdwithin_yes _ _ _ _ p0 q0).mono ?_; rintro e w' ⟨rfl, rfl⟩)
      | (go_at_call_of 67 (Value.int .i64 c1); refine (wdwithin_yes _ _ _ _ p1 q1).mono ?_; rintro e w' ⟨rfl, rfl⟩)
      | (go_at_call_of 67 (Value.int .i64 c2); refine (wdwithin_yes _ _ _ _ p2 q2).mono ?_; rintro e w' ⟨rfl, rfl⟩)
      | (go_at_call 68; refine (sets_yes _ _ S.out).mono ?_; rintro e w' ⟨rfl, rfl⟩)
      | (go_at_call_of 67 (Value.int .i64 c4); refine (wdwithin_yes _ _ _ _ p4 q4).mono ?_; rintro e w' ⟨rfl, rfl⟩)
      | (go_at_call_of 67 (Value.int .i64 c5); refine (wdwithin_yes _ _ _ _ p5 q5).mono ?_; rintro e w' ⟨rfl, rfl⟩)
      | (go_at_call_of 67 (Value.int .i64 c6); refine (wdwithin_yes _ _ _ _ p6 q6).mono ?_; rintro e w' ⟨rfl, rfl⟩))
  go_ret
  exact ⟨rfl, rfl⟩
/-- Is a configuration good? -/
def goodB (c0 c1 c2 c3 c4 c5 c6 : Int) : Bool := decide (1 ≤ c0 ∧ c0 ≤ 8 ∧ 2 ≤ c1 ∧ c1 ≤ 64 ∧ 1 ≤ c2 ∧ c2 ≤ c1 - 1 ∧ (c3 = 1 ∨ c3 = 2 ∨ c3 = 4 ∨ c3 = 8) ∧ 1 ≤ c4 ∧ c4 ≤ 8 ∧ 1 ≤ c5 ∧ c5 ≤ 16 ∧ 1 ≤ c6 ∧ c6 ≤ 16)
theorem good_any (c0 c1 c2 c3 c4 c5 c6 : Int) (w : World) : Calls Tryz.prog 31 #[.agg #[.int .i64 c0, .int .i64 c1, .int .i64 c2, .int .i64 c3, .int .i64 c4, .int .i64 c5, .int .i64 c6]] w fun e w' => e = .returned (.bool (goodB c0 c1 c2 c3 c4 c5 c6)) ∧ w' = w.alloc (.cells #[.int .i64 c0, .int .i64 c1, .int .i64 c2, .int .i64 c3, .int .i64 c4, .int .i64 c5, .int .i64 c6] 28) := by
  by_cases h0 : 1 ≤ c0 ∧ c0 ≤ 8
  rotate_left
  · have e : goodB c0 c1 c2 c3 c4 c5 c6 = false := by unfold goodB; simp only [decide_eq_false_iff_not]; omega
    rw [e]; exact good_0 c0 c1 c2 c3 c4 c5 c6 w h0
  by_cases h1 : 2 ≤ c1 ∧ c1 ≤ 64
  rotate_left
  · have e : goodB c0 c1 c2 c3 c4 c5 c6 = false := by unfold goodB; simp only [decide_eq_false_iff_not]; omega
    rw [e]; exact good_1 c0 c1 c2 c3 c4 c5 c6 w h0.1 h0.2 h1
  by_cases h2 : 1 ≤ c2 ∧ c2 ≤ c1 - 1
  rotate_left
  · have e : goodB c0 c1 c2 c3 c4 c5 c6 = false := by unfold goodB; simp only [decide_eq_false_iff_not]; omega
    rw [e]; exact good_2 c0 c1 c2 c3 c4 c5 c6 w h0.1 h0.2 h1.1 h1.2 h2
  by_cases h3 : c3 = 1 ∨ c3 = 2 ∨ c3 = 4 ∨ c3 = 8
  rotate_left
  · have e : goodB c0 c1 c2 c3 c4 c5 c6 = false := by unfold goodB; simp only [decide_eq_false_iff_not]; omega
    rw [e]; exact good_3 c0 c1 c2 c3 c4 c5 c6 w h0.1 h0.2 h1.1 h1.2 h2.1 h2.2 h3
  by_cases h4 : 1 ≤ c4 ∧ c4 ≤ 8
  rotate_left
  · have e : goodB c0 c1 c2 c3 c4 c5 c6 = false := by unfold goodB; simp only [decide_eq_false_iff_not]; omega
    rw [e]; exact good_4 c0 c1 c2 c3 c4 c5 c6 w h0.1 h0.2 h1.1 h1.2 h2.1 h2.2 h3 h4
  by_cases h5 : 1 ≤ c5 ∧ c5 ≤ 16
  rotate_left
  · have e : goodB c0 c1 c2 c3 c4 c5 c6 = false := by unfold goodB; simp only [decide_eq_false_iff_not]; omega
    rw [e]; exact good_5 c0 c1 c2 c3 c4 c5 c6 w h0.1 h0.2 h1.1 h1.2 h2.1 h2.2 h3 h4.1 h4.2 h5
  by_cases h6 : 1 ≤ c6 ∧ c6 ≤ 16
  rotate_left
  · have e : goodB c0 c1 c2 c3 c4 c5 c6 = false := by unfold goodB; simp only [decide_eq_false_iff_not]; omega
    rw [e]; exact good_6 c0 c1 c2 c3 c4 c5 c6 w h0.1 h0.2 h1.1 h1.2 h2.1 h2.2 h3 h4.1 h4.2 h5.1 h5.2 h6
  have e : goodB c0 c1 c2 c3 c4 c5 c6 = true := by unfold goodB; simp only [decide_eq_true_eq]; omega
  rw [e]; exact good_7 c0 c1 c2 c3 c4 c5 c6 w h0.1 h0.2 h1.1 h1.2 h2.1 h2.2 h3 h4.1 h4.2 h5.1 h5.2 h6.1 h6.2
end Go.Proofs.YtcjoinhngdfdmaaGreatDoor
end
