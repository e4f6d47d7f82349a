/- What a statement of layer 13 needs further: by parts. No condition. -/
import Derived.Test.YtcjoinhngdfdmaaGreatDoorCNaq
import Derived.Below
import Derived.BigQuiet
import Derived.ChangeArms
import Derived.ChangeKeysEq
import Derived.Deep.Cut
import Derived.Deep.CutBlock
import Derived.Deep.CutRange
import Derived.Deep.DeepCutAuto
import Derived.Deep.MidRow
import Derived.Deep.QuietTactic
import Derived.Deep.RegionHeld3
import Derived.Deep.RegionWith
import Derived.DeepKeys
import Derived.Laws.BitsAllLaws
import Derived.Laws.Entries
import Derived.Laws.LoneSync
import Derived.Laws.StructEq
import Derived.Lib.Hide
import Derived.Lib.SliceRun
import Derived.OpenShut
import Derived.ProofKit
import Derived.Test.YtcjoinhngdfdmaaGreatDoorChecked
import Derived.WalkKit
import Derived.WideShapes
section
namespace Go.Proofs.YtcjoinhngdfdmaaGreatDoor
open Go.RowKit
set_option linter.unusedVariables false

/-! ### What a block holds -/
/-! ### Blocks of other worlds -/
/-! ### A value of many cells is loaded, is stored -/
/-! ### Numbers in a block: its first cells are these, others may follow -/
theorem bk_size (xs : List Int) (r : List Value) : (bk xs r).size = xs.length + r.length := by simp [bk]
theorem fit_more {o n a : Nat} (h : Fit o n a) (b : Nat) : Fit o n (a + b) := by have := h.out; unfold Fit; omega
theorem rowIn_bk {xs : List Int} {i : Nat} (h : Fit (i * 8) 8 xs.length) (r : List Value) (t : TypeId) (f : Nat × Nat) : rowIn (some (.cells (bk xs r) t f)) (i * 8) 8 = true := by
  rw [rowIn_some, bk_size]; simp [fit_more h]
theorem rowPart_bk {xs : List Int} {i : Nat} (h : Fit (i * 8) 8 xs.length) (r : List Value) (t : TypeId) (f : Nat × Nat) : rowPart (some (.cells (bk xs r) t f)) (i * 8) 8 = vs (ln xs i) := by
  have := h.out
  have e1 : (xs.map (Value.int .u64) ++ r).drop (i * 8) = (xs.drop (i * 8)).map (Value.int .u64) ++ r := by
    rw [List.drop_append_of_le_length (by simp; omega), List.map_drop]
  have e2 : ((xs.drop (i * 8)).map (Value.int .u64) ++ r).take 8 = ((xs.drop (i * 8)).take 8).map (Value.int .u64) := by
    rw [List.take_append_of_le_length (by simp; omega), List.map_take]
  rw [rowPart_some]
  unfold bk vs ln
  rw [List.toList_toArray, e1, e2]
/-! ### What a call leaves as it was: all blocks but these -/
/-! ### Builtins, closed to the walk but for the laws that are laid -/
/-! ### Slices that are read; clone, copy, clear, make -/
section
variable {P : Program} {t ty e : TypeId} {i : TypeInfo} {z : Value}
end
end Go.Proofs.YtcjoinhngdfdmaaGreatDoor
end
section
namespace Go.Proofs.YtcjoinhngdfdmaaGreatDoor
open Go.RowKit
set_option linter.unusedVariables false

/-! ### Elements one behind the other -/
section
variable {α : Type} {enc : α → List Value} {k : Nat}
end

/-! ### A variable that is a slice of its own block be, at its head (be is q where there is none yet) -/
section
variable {α : Type} {enc : α → List Value} {k bytes : Nat} {P : Program} {t ty e : TypeId} {z : Value}
theorem Vec.there {w : World} {q be : Nat} {A : Option Addr} {cap : Nat} {xs : List α} (h : Vec k e enc w q be A cap xs) (h0 : 0 < xs.length) : be ≠ q ∧ A = some ⟨be, 0, none⟩ ∧ ∃ r : List Value, w.heap[be]? = some (.cells (sq enc xs r) e (0, 0)) ∧ xs.length * k + r.length = cap * k := by
  rcases h with ⟨_, _, _, rfl⟩ | ⟨h1, h2, _, h3⟩
  · simp at h0
  · exact ⟨h1, h2, h3⟩
end
/-! ### A value of many cells put into a row of cells, as the walk spells it -/
end Go.Proofs.YtcjoinhngdfdmaaGreatDoor
end
section
namespace Go.Proofs.YtcjoinhngdfdmaaGreatDoor
open Go.RowKit
set_option linter.unusedVariables false
section
variable {α : Type} {enc : α → List Value} {k bytes : Nat} {P : Program} {t ty e : TypeId} {z : Value}
section
variable {w w' : World} {q be : Nat} {A : Option Addr} {cap : Nat} {xs : List α}
theorem slR_tail (E : Elt P t e k bytes z enc) (A : Option Addr) (n cap : Nat) (hc : n + 1 ≤ cap) (w : World) : slR P t (.slice A (n + 1) cap) (some (.int .i64 1)) none none w = .ok (.slice (behind k A cap) n (cap - 1)) w := by
  obtain ⟨i0, hi0, hz0, hz1, hz2⟩ := info_parts E.info
  subst hz1
  unfold slR behind
  have h1 : (0 : Int) ≤ 1 := by omega
  have h2 : (1 : Int) ≤ ((n + 1 : Nat) : Int) := by omega
  simp [Instr.slice, Instr.sliceBounds, Instr.sliceBound, asIntOf, run_underlying E.slice, sizeOf, typeInfo, hi0]
  intro h; omega
end
end
end Go.Proofs.YtcjoinhngdfdmaaGreatDoor
end
section
namespace Go.Proofs.YtcjoinhngdfdmaaGreatDoor
open Go.RowKit
set_option linter.unusedVariables false

/-! ### Which way a kind goes; which messages have a form -/
theorem Tab.old0 {w : World} (h : Tab w) : Old w 0 := Nat.lt_of_le_of_lt (Nat.zero_le _) h.old
/-! ### What calls of a queue answer and leave -/
def headM (xs : List Ms) : Ms := xs.headD msZ
def someB (xs : List Ms) : Bool := !xs.isEmpty
end Go.Proofs.YtcjoinhngdfdmaaGreatDoor
end
section
namespace Go.Proofs.YtcjoinhngdfdmaaGreatDoor
open Go.RowKit
set_option linter.unusedVariables false

theorem ln_over_none {n i : Nat} : ∀ (es : List Ent) (xs : List Int), xs.length = n * 8 → Lie n es → (∀ e ∈ es, e.pos ≠ i) → ln (over xs es) i = ln xs i
  | [], xs, _, _, _ => rfl
  | e :: es, xs, hx, h, hn => by
    have hf := fit_line hx (h e (by simp))
    rw [over_cons, ln_over_none es _ (by rw [lnPut_length _ _ _ hf e.h, hx]) (h.sub (by intro x hx; simp [hx])) (fun x hx => hn x (by simp [hx])), ln_put_other _ _ _ _ hf e.h (hn e (by simp))]
theorem ln_over_last {n : Nat} (es post : List Ent) (e : Ent) (xs : List Int) (hx : xs.length = n * 8) (h : Lie n (es ++ e :: post)) (hp : ∀ x ∈ post, x.pos ≠ e.pos) : ln (over xs (es ++ e :: post)) e.pos = e.l := by
  have h1 : Lie n es := h.sub (by intro x hx; simp [hx])
  have hl := over_length es xs hx h1
  have hf := fit_line hl (h e (by simp))
  rw [over_append, over_cons, ln_over_none post _ (by rw [lnPut_length _ _ _ hf e.h, hl]) (h.sub (by intro x hx; simp [hx])) hp, ln_put_same _ _ _ hf e.h]
/-- The newest words of a line among k entries and those behind. -/
theorem ln_over_at {n : Nat} {es : List Ent} {k : Nat} {e : Ent} (xs : List Int) (hx : xs.length = n * 8) (h : Lie n es) (he : es[k]? = some e) (hk : ∀ x ∈ es.drop (k + 1), x.pos ≠ e.pos) : ln (over xs es) e.pos = e.l := by
  have hc := cut_at he
  rw [hc]
  exact ln_over_last _ _ _ _ hx (by rw [← hc]; exact h) hk
theorem drop_all {α : Type} {p : α → Prop} {es : List α} {k : Nat} {e : α} (he : es[k]? = some e) (h : p e) (hd : ∀ x ∈ es.drop (k + 1), p x) : ∀ x ∈ es.drop k, p x := by
  obtain ⟨hk, rfl⟩ := List.getElem?_eq_some_iff.1 he
  rw [List.drop_eq_getElem_cons hk]
  intro x hx
  rcases List.mem_cons.1 hx with rfl | hx
  · exact h
  · exact hd x hx
/-! ### Entry k in its block -/
section
variable {es : List Ent} {k : Nat} {e : Ent} (h : es[k]? = some e) (r : List Value) (t : TypeId) (f : Nat × Nat)
include h
theorem ent_cell : (sq Ent.enc es r)[k * 9]? = some (.int .i64 e.pos) := by
  have := sq_cell Ent.len h r 0 (by omega)
  rw [Nat.add_zero] at this
  rw [this]; rfl
theorem ent_line : rowPart (some (.cells (sq Ent.enc es r) t f)) (k * 9 + 1) 8 = vs e.l := by
  rw [rowPart_sq Ent.len h r t f 1 8 (by omega)]
  have : e.l.length = 8 := e.h
  simp [Ent.enc, vs, List.take_of_length_le, this]
theorem ent_lineIn : rowIn (some (.cells (sq Ent.enc es r) t f)) (k * 9 + 1) 8 = true := rowIn_sq Ent.len (List.getElem?_eq_some_iff.1 h).1 r t f 1 8 (by omega)
end
/-! ### Integers in a block -/
end Go.Proofs.YtcjoinhngdfdmaaGreatDoor
end
section
namespace Go.Proofs.YtcjoinhngdfdmaaGreatDoor
open Go.RowKit
set_option linter.unusedVariables false
set_option maxHeartbeats 1000000

/-! ### Masks of cores -/
theorem coresTo_succ (s : Mk) (k : Nat) : coresTo s (k + 1) = if hasM s k = true then coresTo s k ++ [(k : Int)] else coresTo s k := by
  unfold coresTo
  rw [List.range_succ, List.map_append, List.filter_append]
  cases h : hasM s k <;> simp [h]
theorem coresTo_len (s : Mk) (k : Nat) : (coresTo s k).length ≤ k := by
  unfold coresTo
  exact Nat.le_trans (List.length_filter_le _ _) (by simp)
/-! ### What the L2 knows of one line -/
section
variable (e : En)
end
/-! ### Messages to cores -/
/-! ### What calls answer -/
end Go.Proofs.YtcjoinhngdfdmaaGreatDoor
end
section
namespace Go.Proofs.YtcjoinhngdfdmaaGreatDoor
open Go.RowKit
set_option linter.unusedVariables false
attribute [local go_sem ↓] append_appS copy_copS clear_clrS make_mkS cell_row frozen_row loadLine storeLine heap_drew heap_drewN heap_alloc heap_past heap_setCell heap_putRow
attribute [local go_sem] rowCell_some rowFrozen_some rowHas_some rowIn_some rowPart_full rowPart_lit rowPut_full rowPut_lit rowSet_some size_putRow vs_size vs_one wideLine run_loadS run_storeS run_appS run_copS run_clrS run_mkS loadW_at storeW_at fit_all one_int one_bool one_pointer one_slice allOne_list putRow_new ne_size1 ne_size2 ne_size3 ne_size4
attribute [local simp ↓] heap_drew heap_drewN heap_alloc heap_past heap_setCell heap_putRow
attribute [local simp] rowCell_some rowFrozen_some rowHas_some rowIn_some rowPart_full rowPart_lit rowPut_full rowPut_lit rowSet_some size_putRow vs_size fit_all putRow_new ne_size1 ne_size2 ne_size3 ne_size4

/-! ### The device -/
theorem place_ok (g b n v : Nat) (i : Int) (xs : List Int) (w : World) (hd : Dev w g b n v xs) (h0 : 0 ≤ i) (h1 : i < n) :
    Calls Tryz.prog 183 #[.pointer (some ⟨g, 0, none⟩), .int .i64 i] w fun e w' => e = .returned (.int .i64 0) ∧ w = w' := by
  obtain ⟨⟨r, wr, hg⟩, _, _, hn2, hn, _⟩ := hd
  go_enter Tryz.func183, Tryz.ntmps183
  go_wp2_with (go_at_call 69; refine (within_yes _ _ _ _ (by omega) (by omega)).mono ?_; rintro e w' ⟨rfl, rfl⟩)
  go_ret
  exact ⟨rfl, rfl⟩
theorem add_any (g o : Nat) (x : Int) (w : World) (c : Array Value) (T : TypeId) (hg : w.heap[g]? = some (.cells c T (0, 0))) (hc : c[o]? = some (.int .u64 x)) :
    Calls Tryz.prog 59 #[.pointer (some ⟨g, o, none⟩), .int .u64 1] w fun e w' => e = .returned (.int .u64 (IntKind.u64.wrap (x + 1))) ∧ w' = w.setCell ⟨g, o, none⟩ (.int .u64 (IntKind.u64.wrap (x + 1))) := by
  have hadd := run_call_add (P := Tryz.prog) Tryz.func102 (by kernel_rfl) (by kernel_rfl) (by kernel_rfl) .u64 (by kernel_rfl) (a := ⟨g, o, none⟩) (x := x) (y := 1) (s := IntKind.u64.wrap (x + 1)) (w := w) (by rw [cell_row, hg, rowCell_some, hc]) (by rw [frozen_row, hg, rowFrozen_some]) (by simp [Op.intArith])
  clear hg hc
  go_enter Tryz.func59, Tryz.ntmps59
  go_wp2
  go_ret
  exact ⟨rfl, rfl⟩


/-- Two results, the first one a line in memory. -/
theorem results_line2 {fn : Func} {p t : Tmp} (h : fn.results = #[.cell p 48, .tmp t]) (tmps : Array Value) (w : World) (b : Nat) (l : List Int) (fr : Nat × Nat)
    (hp : tmps.getD p undef = .pointer (some ⟨b, 0, none⟩)) (hb : w.heap[b]? = some (.cells (vs l) 48 fr)) (hl : l.length = 8) (x : Value) (hx : tmps.getD t undef = x) :
    (results fn tmps).run Tryz.prog w = .ok (.tuple #[.agg (vs l), x]) w := by
  subst hx
  have hp' : tmps[p]?.getD undef = .pointer (some ⟨b, 0, none⟩) := by simpa using hp
  have := run_loadVar_row (P := Tryz.prog) w b 48 48 (vs l) fr _ hb Tryz.underlying48 rfl (by rw [vs_size, hl]; kernel_rfl)
  simp [results, h, hp', asAddr, this]
attribute [local go_sem] zero8_length
attribute [local simp] zero8_length

theorem read_ok (g b n v : Nat) (i : Nat) (xs : List Int) (w : World) (hd : Dev w g b n v xs) (h1 : i < n) :
    Calls Tryz.prog 153 #[.pointer (some ⟨g, 0, none⟩), .int .i64 i] w fun e w' => e = .returned (.tuple #[.agg (vs (ln xs i)), .int .i64 0]) ∧ Chg [g] w w' ∧ Dev w' g b n v xs := by
  have hd' := Lib.hid (hd.keep ((Chg.refl [] w).alloc (.cells (vs zero8) 48)) (by simp) (by simp))
  obtain ⟨⟨r, wr, hg⟩, hb, hx, hn2, hn, hv, hvn, hgb⟩ := hd
  have hf : Fit (i * 8) 8 xs.length := by rw [hx]; unfold Fit; omega
  have H := Lib.hid hx
  have hbg : b ≠ g := fun e => hgb e.symm
  have hgl := old hg
  have hbl := old hb
  have hl := ln_length xs i hf
  have hi : (i : Int) < (n : Int) := by omega
  have hi0 : (0 : Int) ≤ (i : Int) := by omega
  have h64 : (n : Int) ≤ 64 := by omega
  have rp := rowPart_bk hf [] 48 (0, 0)
  have ri := rowIn_bk hf [] 48 (0, 0)
  clear hx hf
  go_enter Tryz.func153, Tryz.ntmps153
  go_wp2_with (first
    | (go_at_call 183; refine (place_ok g b n v _ xs _ hd'.out (by omega) (by omega)).mono ?_; rintro e w' ⟨rfl, rfl⟩)
    | (go_at_call 59; refine (add_any g 2 r _ #[.slice (some ⟨b, 0, none⟩) n n, .int .i64 v, .int .u64 r, .int .u64 wr] 146 (by rw [heap_alloc, hg]; rfl) rfl).mono ?_; rintro e w' ⟨rfl, rfl⟩))
  refine bodyPost_ret (v := .tuple #[.agg (vs (ln xs i)), .int .i64 0]) ?_ (by rfl) ?_
  · exact results_line2 (by rfl) _ _ w.heap.size (ln xs i) (0, 0) (by rfl) (by simp [*]) hl _ (by rfl)
  refine ⟨rfl, ?_, ?_⟩
  · exact (((Chg.refl _ _).alloc _).setCell _ _ _ (.inl (by simp))).putRow _ _ _ (.inr (by simp))
  · exact ⟨⟨IntKind.u64.wrap (r + 1), wr, by simp [*]⟩, by simp [*], H.out, hn2, hn, hv, hvn, hgb⟩

/-! ### Images -/
attribute [local go_sem] lines_nil
end Go.Proofs.YtcjoinhngdfdmaaGreatDoor
end
section
namespace Go.Proofs.YtcjoinhngdfdmaaGreatDoor
open Go.RowKit
set_option linter.unusedVariables false
set_option maxHeartbeats 1000000
attribute [local go_sem ↓] append_appS copy_copS clear_clrS make_mkS slice_slS cell_row frozen_row loadLine storeLine loadMsg storeMsg loadHas storeHas heap_drew heap_drewN heap_alloc heap_past heap_setCell heap_putRow vs_get msc_kd msc_li msc_di msc_ke
attribute [local go_sem] rowCell_some rowFrozen_some rowHas_some rowIn_some rowPart_full rowPart_lit rowPut_full rowPut_lit rowSet_some size_putRow vs_size vs_one wideLine wideMsg wideHas run_loadS run_storeS run_appS run_copS run_clrS run_mkS run_slS loadW_at storeW_at fit_all fit_le one_int one_bool one_pointer one_slice allOne_list putRow_new ne_size1 ne_size2 ne_size3 ne_size4 zero8_length line_eq lit8 msc_size msc_one msc_part msc_in fold_msc
attribute [local simp ↓] heap_drew heap_drewN heap_alloc heap_past heap_setCell heap_putRow
attribute [local simp] rowCell_some rowFrozen_some rowHas_some rowIn_some rowPart_full rowPart_lit rowPut_full rowPut_lit rowSet_some size_putRow vs_size fit_all putRow_new ne_size1 ne_size2 ne_size3 ne_size4 zero8_length msc_size

theorem asks_any (k : Int) (w : World) : Calls Tryz.prog 97 #[.int .i64 k] w fun e w' => e = .returned (.bool (asksB k)) ∧ w = w' := by
  go_enter Tryz.func97, Tryz.ntmps97
  go_wp2_with (go_at_call 147; refine (mwithin_any _ _ _ _).mono ?_; rintro e w' ⟨rfl, rfl⟩)
  go_ret
  exact ⟨rfl, rfl⟩
theorem tells_any (k : Int) (w : World) : Calls Tryz.prog 103 #[.int .i64 k] w fun e w' => e = .returned (.bool (tellsB k)) ∧ w = w' := by
  go_enter Tryz.func103, Tryz.ntmps103
  go_wp2_with (go_at_call 147; refine (mwithin_any _ _ _ _).mono ?_; rintro e w' ⟨rfl, rfl⟩)
  go_ret
  exact ⟨rfl, rfl⟩
/-! ### Which messages have a form -/
end Go.Proofs.YtcjoinhngdfdmaaGreatDoor
end
section
namespace Go.Proofs.YtcjoinhngdfdmaaGreatDoor
open Go.RowKit
set_option linter.unusedVariables false
set_option maxHeartbeats 1000000
set_option maxRecDepth 100000
attribute [local go_sem ↓] append_appS copy_copS clear_clrS make_mkS slice_slS cell_row frozen_row loadLine storeLine loadMsg storeMsg loadHas storeHas heap_drew heap_drewN heap_alloc heap_past heap_setCell heap_putRow vs_get msc_kd msc_li msc_di msc_ke
attribute [local go_sem] rowCell_some rowFrozen_some rowHas_some rowIn_some rowPart_full rowPart_lit rowPut_full rowPut_lit rowSet_some size_putRow vs_size vs_one wideLine wideMsg wideHas run_loadS run_storeS run_appS run_copS run_clrS run_mkS run_slS loadW_at storeW_at fit_all fit_le one_int one_bool one_pointer one_slice allOne_list putRow_new ne_size1 ne_size2 ne_size3 ne_size4 zero8_length line_eq lit8 msc_size msc_one msc_part msc_in fold_msc
attribute [local simp ↓] heap_drew heap_drewN heap_alloc heap_past heap_setCell heap_putRow
attribute [local simp] rowCell_some rowFrozen_some rowHas_some rowIn_some rowPart_full rowPart_lit rowPut_full rowPut_lit rowSet_some size_putRow vs_size fit_all putRow_new ne_size1 ne_size2 ne_size3 ne_size4 zero8_length msc_size

/-! ### Len, Head -/
/-- Two results, the first one a message in memory. -/
theorem results_msg2 {fn : Func} {p t : Tmp} (h : fn.results = #[.cell p 50, .tmp t]) (tmps : Array Value) (w : World) (b : Nat) (m : Ms) (fr : Nat × Nat)
    (hp : tmps.getD p undef = .pointer (some ⟨b, 0, none⟩)) (hb : w.heap[b]? = some (.cells (msc m) 50 fr)) (x : Value) (hx : tmps.getD t undef = x) :
    (results fn tmps).run Tryz.prog w = .ok (.tuple #[.agg (msc m), x]) w := by
  subst hx
  have hp' : tmps[p]?.getD undef = .pointer (some ⟨b, 0, none⟩) := by simpa using hp
  have := run_loadVar_row (P := Tryz.prog) w b 50 50 (msc m) fr _ hb Tryz.underlying50 rfl (by rw [msc_size]; kernel_rfl)
  simp [results, h, hp', asAddr, this]
attribute [local go_sem ↓] mlitZ
attribute [local simp] mlitZ
theorem headM_nil : headM [] = msZ := rfl
theorem headM_cons (x : Ms) (xs : List Ms) : headM (x :: xs) = x := rfl
end Go.Proofs.YtcjoinhngdfdmaaGreatDoor
end
section
namespace Go.Proofs.YtcjoinhngdfdmaaGreatDoor
open Go.RowKit
set_option linter.unusedVariables false
set_option maxHeartbeats 1000000
attribute [local go_sem ↓] append_appS copy_copS clear_clrS make_mkS cell_row frozen_row loadLine storeLine loadSlot storeSlot heap_drew heap_drewN heap_alloc heap_past heap_setCell heap_putRow vs_get slc_st slc_li slc_us
attribute [local go_sem] rowCell_some rowFrozen_some rowHas_some rowIn_some rowPart_full rowPart_lit rowPut_full rowPut_lit rowSet_some size_putRow vs_size vs_one wideLine wideSlot run_loadS run_storeS run_appS run_copS run_clrS run_mkS loadW_at storeW_at fit_all fit_le one_int one_bool one_pointer one_slice allOne_list putRow_new ne_size1 ne_size2 ne_size3 ne_size4 zero8_length lines_nil line_eq lit8 slc_size slc_one slc_part slc_in fold_slt slc_set_us
attribute [local simp ↓] heap_drew heap_drewN heap_alloc heap_past heap_setCell heap_putRow
attribute [local simp] rowCell_some rowFrozen_some rowHas_some rowIn_some rowPart_full rowPart_lit rowPut_full rowPut_lit rowSet_some size_putRow vs_size fit_all putRow_new ne_size1 ne_size2 ne_size3 ne_size4 zero8_length slc_size


/-! ### Dropped -/
theorem adrop_any (a b S W : Nat) (xs : List Slt) (u li : Int) (w : World) (h : Arr w a b S W xs u) :
    Calls Tryz.prog 105 #[.pointer (some ⟨a, 0, none⟩), .int .i64 li] w (ArrTo w a b S W (dropXs xs li) u (.bool (dropVal xs li))) := by
  have H := Lib.hid h
  have HG := Lib.hid (h.2.2.2.dropXs li)
  rcases h.2.2.2.where li with ⟨k, y, e1, e2, hk, hy, hst, hli, h0, e3, e4, e5⟩ | ⟨e1, e2, e3, e4⟩
  · unfold dropXs dropVal at *
    rw [e2] at HG ⊢
    rw [show decide (setOf S li * W + k < xs.length) = true by simpa using e5]
    have HH := Lib.hid e3
    have HL := Lib.hid (h.2.2.2.seg_len li)
    have HY := Lib.hid hy
    have hw8 := h.2.2.2.way8
    obtain ⟨f, hf⟩ : ∃ f, setOf S li * W = f := ⟨_, rfl⟩
    have HF := Lib.hid hf
    rw [hf] at hy ⊢ HG
    have rh := slt_has hy [] 205
    have rp := slt_put hy [] 205 (0, 0) sltZ
    have hb := h.2.1
    clear h e1 e2 e3 e4 e5 hst hli hy hf
    go_enter Tryz.func105, Tryz.ntmps105
    go_wp2_with fail
    refine (aset_ok a b S W xs u li w H.out h0).mono ?_
    rintro e w2 ⟨rfl, c2⟩
    have C2 := Lib.hid c2
    clear c2
    go_wp2_with fail
    refine (wayOf_ok _ W W li _ w2 ((H.out.keep C2.out (by simp) (by simp)).sl li) HL.out.symm (by omega)).mono ?_
    rintro e w3 ⟨rfl, c3⟩
    rw [HH.out, HF.out]
    have C3 := Lib.hid (C2.out.trans c3)
    have hb3 := C3.out.keep hb (by simp)
    have ob3 := old hb3
    have g1 : (k : Int) < (W : Int) := by omega
    have g0 : (0 : Int) ≤ (k : Int) := by omega
    have g2 : (W : Int) ≤ 8 := by omega
    have t1 : decide ((k : Int) < 0) = false := by simp
    rw [Nat.add_mul] at rh rp
    clear c3 hb
    go_wp2_with fail
    go_ret
    refine ⟨rfl, ?_, ?_⟩
    · exact ((C3.out.mono (l' := [a, b]) (by simp)).putRow _ _ _ (.inl (by simp)))
    · have := (H.out.keep C3.out (by simp) (by simp)).putSlot (k := f + k) (by rw [← HF.out]; exact HY.out) sltZ HG.out
      rw [Nat.add_mul] at this
      exact this
  · rw [show dropXs xs li = xs by unfold dropXs; rw [e3, set_none], show dropVal xs li = false by unfold dropVal; rw [e3]; simp]
    have HN := Lib.hid e4
    clear h e1 e2 e3 e4 HG
    go_enter Tryz.func105, Tryz.ntmps105
    go_wp2_with fail
    refine (aset_miss a b S W xs u li w H.out HN.out).mono ?_
    rintro e w2 ⟨A, n, ys, rfl, s2, hn, hn1, hh, c2⟩
    have C2 := Lib.hid c2
    have S2 := Lib.hid s2
    have HH := Lib.hid hh
    have HN1 := Lib.hid hn
    clear c2 s2 hh hn
    go_wp2_with fail
    refine (wayOf_ok A n n li ys w2 S2.out HN1.out hn1).mono ?_
    rintro e w3 ⟨rfl, c3⟩
    rw [HH.out]
    have C3 := Lib.hid (C2.out.trans c3)
    clear c3
    go_wp2_with fail
    go_ret
    exact ArrTo.same H.out C3.out _

/-! ### Used -/
/-! ### Set -/
end Go.Proofs.YtcjoinhngdfdmaaGreatDoor
end
section
namespace Go.Proofs.YtcjoinhngdfdmaaGreatDoor
open Go.RowKit
set_option linter.unusedVariables false
set_option maxHeartbeats 1000000
attribute [local go_sem ↓] append_appS copy_copS clear_clrS make_mkS cell_row frozen_row loadLine storeLine loadSlot storeSlot heap_drew heap_drewN heap_alloc heap_past heap_setCell heap_putRow vs_get slc_st slc_li slc_us
attribute [local go_sem] rowCell_some rowFrozen_some rowHas_some rowIn_some rowPart_full rowPart_lit rowPut_full rowPut_lit rowSet_some size_putRow vs_size vs_one wideLine wideSlot run_loadS run_storeS run_appS run_copS run_clrS run_mkS loadW_at storeW_at fit_all fit_le one_int one_bool one_pointer one_slice allOne_list putRow_new ne_size1 ne_size2 ne_size3 ne_size4 zero8_length lines_nil line_eq lit8 slc_size slc_one slc_part slc_in fold_slt fold_slc slc_set_us
attribute [local simp ↓] heap_drew heap_drewN heap_alloc heap_past heap_setCell heap_putRow
attribute [local simp] rowCell_some rowFrozen_some rowHas_some rowIn_some rowPart_full rowPart_lit rowPut_full rowPut_lit rowSet_some size_putRow vs_size fit_all putRow_new ne_size1 ne_size2 ne_size3 ne_size4 zero8_length slc_size




/-! ### Slots compared -/
/-! ### An array that is all new to the world W -/
section
variable {W w : World} {a b S N : Nat} {xs : List Slt} {u : Int} (h : ASys W w a b S N xs u)
include h
theorem sys_drop (li : Int) : Calls Tryz.prog 105 #[.pointer (some ⟨a, 0, none⟩), .int .i64 li] w (ASysTo W w a b S N (dropXs xs li) u (.bool (dropVal xs li))) :=
  h.to (adrop_any a b S N xs u li w h.2.1)
end
/-! ### What all wake -/
attribute [local go_sem ↓] slc_w0
end Go.Proofs.YtcjoinhngdfdmaaGreatDoor
end
section
namespace Go.Proofs.YtcjoinhngdfdmaaGreatDoor
open Go.RowKit
set_option linter.unusedVariables false
set_option maxHeartbeats 1000000
set_option maxRecDepth 100000
attribute [local go_sem ↓] append_appS copy_copS clear_clrS make_mkS cell_row frozen_row loadLine storeLine loadSlot storeSlot heap_drew heap_drewN heap_alloc heap_past heap_setCell heap_putRow vs_get slc_st slc_li slc_us slice_slS loadMsg storeMsg loadHas storeHas msc_kd msc_li msc_di msc_ke
attribute [local go_sem] rowCell_some rowFrozen_some rowHas_some rowIn_some rowPart_full rowPart_lit rowPut_full rowPut_lit rowSet_some size_putRow vs_size vs_one wideLine wideSlot run_loadS run_storeS run_appS run_copS run_clrS run_mkS loadW_at storeW_at fit_all fit_le one_int one_bool one_pointer one_slice allOne_list putRow_new ne_size1 ne_size2 ne_size3 ne_size4 zero8_length lines_nil line_eq lit8 slc_size slc_one slc_part slc_in fold_slt fold_slc slc_set_us wideMsg wideHas run_slS msc_size msc_one msc_part msc_in fold_msc msc_putDi msc_putKe msc_putX msc_has ms4_lit
attribute [local simp ↓] heap_drew heap_drewN heap_alloc heap_past heap_setCell heap_putRow
attribute [local simp] rowCell_some rowFrozen_some rowHas_some rowIn_some rowPart_full rowPart_lit rowPut_full rowPut_lit rowSet_some size_putRow vs_size fit_all putRow_new ne_size1 ne_size2 ne_size3 ne_size4 zero8_length slc_size msc_size msc_putDi msc_putKe msc_putX msc_has fit_le


attribute [local go_sem ↓] mlitZ
attribute [local simp] mlitZ
/-! ### A queue of messages, its slice in cell o of block q -/
theorem mqlen_ok (T : TypeId) (C : Array Value) (q o : Nat) (A : Option Addr) (n cap : Nat) (w : World) (hq : w.heap[q]? = some (.cells C T (0, 0))) (hC : C[o]? = some (.slice A n cap)) : Calls Tryz.prog 144 #[.pointer (some ⟨q, o, none⟩)] w fun e w' => e = .returned (.int .i64 n) ∧ w = w' := by
  go_enter Tryz.func144, Tryz.ntmps144
  try dsimp only [List.append]
  go_wp2_with fail
  go_ret
  exact ⟨rfl, rfl⟩
theorem qhead_ok (T : TypeId) (C : Array Value) (q o : Nat) (be : Nat) (A : Option Addr) (cap : Nat) (xs : List Ms) (w : World) (hq : w.heap[q]? = some (.cells C T (0, 0))) (hC : C[o]? = some (.slice A xs.length cap)) (hl : xs.length ≤ 1000) (hV : Vof 12 50 Ms.enc w q be A cap xs) :
    Calls Tryz.prog 93 #[.pointer (some ⟨q, o, none⟩)] w fun e w' => e = .returned (.tuple #[.agg (msc (headM xs)), .bool (someB xs)]) ∧ Chg [] w w' := by
  cases xs with
  | nil =>
    have HQ := Lib.hid hq
    clear hV
    go_enter Tryz.func93, Tryz.ntmps93
    try dsimp only [List.append]
    go_wp2_with fail
    refine (mqlen_ok T C q o A 0 cap _ (((Chg.refl [] w).alloc (.cells (msc msZ) 50)).keep HQ.out (by simp)) hC).mono ?_
    rintro e w' ⟨rfl, rfl⟩
    go_wp2_with fail
    refine bodyPost_ret (v := .tuple #[.agg (msc msZ), .bool false]) ?_ (by rfl) ?_
    · exact results_msg2 (by rfl) _ _ w.heap.size msZ (0, 0) (by rfl) (by simp [*]) _ (by rfl)
    · exact ⟨rfl, (Chg.refl _ _).alloc _⟩
  | cons x xs =>
    obtain ⟨hne, o', C', rfl, hb, hi, hp⟩ := hV.first Ms.len
    have hp' : rowPart (some (.cells C' 50 (0, 0))) o' 12 = msc x := hp
    have oq := old hq
    have ob := old hb
    have l6 : (xs.length : Int) + 1 ≤ 1000 := by simp at hl; omega
    have g1 : (0 : Int) < (xs.length : Int) + 1 := by omega
    have t1 : (((xs.length : Int) + 1) == 0) = false := by simp; omega
    have hC' : C[o]? = some (.slice (some ⟨be, o', none⟩) (xs.length + 1) cap) := hC
    have HQ := Lib.hid hq
    rw [headM_cons]
    clear hV hp hl hC
    go_enter Tryz.func93, Tryz.ntmps93
    try dsimp only [List.append]
    go_wp2_with (go_at_call 144; refine (mqlen_ok T C q o _ (xs.length + 1) cap _ (((Chg.refl [] w).alloc (.cells (msc msZ) 50)).keep HQ.out (by simp)) hC').mono ?_; rintro e w' ⟨rfl, rfl⟩; rw [show ((xs.length + 1 : Nat) : Int) = (xs.length : Int) + 1 by simp])
    refine bodyPost_ret (v := .tuple #[.agg (msc x), .bool true]) ?_ (by rfl) ?_
    · exact results_msg2 (by rfl) _ _ w.heap.size x (0, 0) (by rfl) (by simp [*]) _ (by rfl)
    · exact ⟨rfl, (Chg.refl _ _).alloc _⟩
theorem qpop_ok (T : TypeId) (C : Array Value) (q o : Nat) (be : Nat) (A : Option Addr) (cap : Nat) (xs : List Ms) (w : World) (hq : w.heap[q]? = some (.cells C T (0, 0))) (hC : C[o]? = some (.slice A xs.length cap)) (hl : xs.length ≤ 1000) (hV : Vof 12 50 Ms.enc w q be A cap xs) :
    Calls Tryz.prog 100 #[.pointer (some ⟨q, o, none⟩)] w (QueTo T C q o be w xs.tail (.tuple #[.agg (msc (headM xs)), .bool (someB xs)])) := by
  have oq := old hq
  have r0 : (w.alloc (.cells (msc msZ) 50)).heap[w.heap.size]? = some (.cells (msc msZ) 50 (0, 0)) := by simp
  have C0 := Lib.hid ((Chg.refl [] w).alloc (.cells (msc msZ) 50))
  have hhd := fun w1 (c : Chg [] w w1) => qhead_ok T C q o be A cap xs w1 (c.keep hq (by simp)) hC hl (hV.keep c (by simp))
  have HH := Lib.hid hhd
  have HV := Lib.hid hV
  have HQ := Lib.hid hq
  have HL := Lib.hid hl
  have HQS : w.heap.size ≠ q := by have := oq.lt; omega
  have HQT : q ≠ w.heap.size := fun e => HQS e.symm
  clear hhd hV oq hl
  cases xs with
  | nil =>
    have HC := Lib.hid hC
    clear hC hq
    go_enter Tryz.func100, Tryz.ntmps100
    try dsimp only [List.append]
    go_wp2_with fail
    generalize w.alloc (.cells (msc msZ) 50) = w1 at r0 C0 ⊢
    refine (HH.out w1 C0.out).mono ?_
    rw [headM_nil, show someB ([] : List Ms) = false from rfl]
    rintro e w2 ⟨rfl, c2⟩
    have r2 := c2.keep r0 (by simp)
    have o2 := old r2
    have C2 := Lib.hid (C0.out.trans c2)
    clear r0 C0 c2
    go_wp2_with fail
    refine bodyPost_ret (v := .tuple #[.agg (msc msZ), .bool false]) ?_ (by rfl) ?_
    · exact results_msg2 (by rfl) _ _ w.heap.size msZ (0, 0) (by rfl) (by simp [*]) _ (by rfl)
    · have C9 := (C2.out.alloc (.cells (msc msZ) 50)).putRow w.heap.size 0 (msc msZ) (.inr (by simp))
      refine ⟨rfl, be, A, cap, ?_, HV.out.keep C9 (by simp), C9.mono (by simp), .inl rfl⟩
      rw [show (([] : List Ms).tail.length) = ([] : List Ms).length from rfl, setSame HC.out]
      exact C9.keep HQ.out (by simp)
  | cons x xs =>
    have hsl := slR_tail (P := Tryz.prog) eltMsg A xs.length cap (by have := HV.out.le; simpa using this)
    have HT := Lib.hid (HV.out.tail Ms.len)
    have hne := (HV.out.first Ms.len).1
    have HN := Lib.hid hne
    have OB := Lib.hid (HV.out.old (old HQ.out))
    have hC' : C[o]? = some (.slice A (xs.length + 1) cap) := hC
    have OI := Lib.hid (Array.getElem?_eq_some_iff.1 hC).1
    have HC := Lib.hid hC'
    clear hne hC hC' hq
    go_enter Tryz.func100, Tryz.ntmps100
    try dsimp only [List.append]
    go_wp2_with fail
    generalize w.alloc (.cells (msc msZ) 50) = w1 at r0 C0 ⊢
    refine (HH.out w1 C0.out).mono ?_
    rw [headM_cons, show someB (x :: xs) = true from rfl]
    rintro e w2 ⟨rfl, c2⟩
    have r2 := c2.keep r0 (by simp)
    have o2 := old r2
    have C2 := Lib.hid (C0.out.trans c2)
    have q2 := C2.out.keep HQ.out (by simp)
    have oq2 := old q2
    have hC' := HC.out
    clear r0 C0 c2
    go_wp2_with fail
    refine bodyPost_ret (v := .tuple #[.agg (msc x), .bool true]) ?_ (by rfl) ?_
    · exact results_msg2 (by rfl) _ _ w.heap.size x (0, 0) (by rfl) (by simp [*]) _ (by rfl)
    · have C9 := (((Chg.refl [q] w2).alloc (.cells (msc x) 50)).setCell q o (.slice (behind 12 A cap) xs.length (cap - 1)) (.inl (by simp))).mono (l' := [q, w.heap.size]) (by simp)
      have C9 := C9.putRow w.heap.size 0 (msc x) (.inl (by simp))
      have hq9 : (putRow ((w2.alloc (.cells (msc x) 50)).setCell ⟨q, o, none⟩ (.slice (behind 12 A cap) xs.length (cap - 1))) w.heap.size 0 (msc x)).heap[q]? = some (.cells (C.setIfInBounds o (.slice (behind 12 A cap) xs.length (cap - 1))) T (0, 0)) := by simp [*]
      have hbw : be ≠ w.heap.size := by have := OB.out.lt; omega
      have hbs := HN.out
      refine ⟨rfl, be, _, _, hq9, ?_, (C2.out.mono (l' := [q, be]) (by simp)).trans' C9 (by simp), .inl rfl⟩
      exact (HT.out.keep C2.out (by simp)).keep C9 (by simp; exact ⟨HN.out, hbw⟩)

/-! ### Put in -/
end Go.Proofs.YtcjoinhngdfdmaaGreatDoor
end
