/- What the calls of package nvm return, and what they leave: walked. No condition. -/
import Derived.Test.YtnocekhgabgffaaMem
import Derived.Test.YtnocekhgabgffaaChecked
import Derived.Laws.LoneSync
import Derived.Lib.SliceRun
import Derived.Deep.RegionHeld3
import Derived.Deep.QuietTactic
import Derived.BigQuiet
import Derived.Deep.RegionWith
namespace Go.Proofs.Ytnocekhgabgffaa
open Go.RowKit
set_option linter.unusedVariables false
theorem wideLine : Wide Try.prog 44 8 := ⟨⟨_, Try.underlying44, by rfl⟩, by kernel_rfl⟩
theorem loadLine (x : Value) : Instr.loadAt 44 x = loadS 44 8 x := rfl
theorem storeLine (x y : Value) : Instr.storeAt 44 x y = storeS 44 8 x y := rfl
attribute [local go_sem ↓] append_appS copy_copS clear_clrS make_mkS cell_row frozen_row loadLine storeLine heap_drew heap_drewN heap_alloc heap_past heap_setCell heap_putRow
attribute [local go_sem] rowCell_some rowFrozen_some rowHas_some rowIn_some rowPart_full rowPart_lit rowPut_full rowPut_lit rowSet_some size_putRow vs_size vs_one wideLine run_loadS run_storeS run_appS run_copS run_clrS run_mkS loadW_at storeW_at fit_all one_int one_bool one_pointer one_slice allOne_list putRow_new ne_size1 ne_size2 ne_size3 ne_size4
attribute [local simp ↓] heap_drew heap_drewN heap_alloc heap_past heap_setCell heap_putRow
attribute [local simp] rowCell_some rowFrozen_some rowHas_some rowIn_some rowPart_full rowPart_lit rowPut_full rowPut_lit rowSet_some size_putRow vs_size fit_all putRow_new ne_size1 ne_size2 ne_size3 ne_size4

/-! ### The device -/
def devCells (b n v r wr : Nat) : Array Value := #[.slice (some ⟨b, 0, none⟩) n n, .int .i64 v, .int .u64 r, .int .u64 wr]
/-- Two results, the first one a line in memory. -/
theorem results_line2 {fn : Func} {p t : Tmp} (h : fn.results = #[.cell p 44, .tmp t]) (tmps : Array Value) (w : World) (b : Nat) (l : List Int) (fr : Nat × Nat)
    (hp : tmps.getD p undef = .pointer (some ⟨b, 0, none⟩)) (hb : w.heap[b]? = some (.cells (vs l) 44 fr)) (hl : l.length = 8) (x : Value) (hx : tmps.getD t undef = x) :
    (results fn tmps).run Try.prog w = .ok (.tuple #[.agg (vs l), x]) w := by
  subst hx
  have hp' : tmps[p]?.getD undef = .pointer (some ⟨b, 0, none⟩) := by simpa using hp
  have := run_loadVar_row (P := Try.prog) w b 44 44 (vs l) fr _ hb Try.underlying44 rfl (by rw [vs_size, hl]; kernel_rfl)
  simp [results, h, hp', asAddr, this]
/-- A line of words 0. -/
def zero8 : List Int := [0, 0, 0, 0, 0, 0, 0, 0]

theorem zero8_length : zero8.length = 8 := rfl
attribute [local go_sem] zero8_length
attribute [local simp] zero8_length

/-! ### Images -/
theorem line_info : (Try.prog.info? 44).map (fun i => (i.zero, i.size, i.bytes)) = some (some (.agg (vs zero8)), 8, 64) := by kernel_rfl
theorem lines_nil (w : World) (a : Option Addr) (n c n' c' : Nat) : (binOp .eql 24 (.slice a n c) (.slice none n' c')).run Try.prog w = .ok (.bool a.isNone) w := Lib.run_eql_slice_nil w _ _ a n c n' c' Try.underlying24
attribute [local go_sem] lines_nil
theorem clone_ok (A : Option Addr) (n c : Nat) (xs : List Value) (w : World) (h : Sl w 8 A n xs) (h0 : 0 < n) (hn : n * 64 ≤ 140737488355328) :
    Calls Try.prog 31 #[.slice A n c] w fun e w' => ∃ g cap r, e = .returned (.slice (some ⟨g, 0, none⟩) n cap) ∧ w'.heap[g]? = some (.cells (xs ++ r).toArray 44 (0, 0)) ∧ w.heap.size ≤ g ∧ n ≤ cap ∧ Chg [] w w' := by
  obtain ⟨i0, hi0, hz0, hz1, hz2⟩ := info_parts line_info
  obtain ⟨b, o, rfl⟩ := h.addr h0
  have hcl := run_clone (P := Try.prog) (t := 24) (ty := 24) Try.underlying24 hi0 hz0 (w.alloc (.cells #[] 44)) ⟨w.heap.size, 0, none⟩ (some ⟨b, o, none⟩) n c xs (by rw [hz1]; exact h.chg ((Chg.refl [] w).alloc _) (by simp)) h0 (by simp only [maxLen]; omega) (by rw [hz2]; exact hn)
  have hge := grownCap_ge (w.alloc (.cells #[] 44)) n 0 44
  generalize grownCap (w.alloc (.cells #[] 44)) n 0 44 = cap at hcl hge
  generalize (Builtin.zeroCells (Value.agg (vs zero8)).cells (cap - n)).toList = r at hcl
  clear h h0 hn hz0 hz1 hz2 hi0
  go_enter Try.func31, Try.ntmps31
  go_wp2
  go_ret
  exact ⟨w.heap.size + 1, cap, r, rfl, by simp, by omega, hge, (((Chg.refl _ _).alloc _).drew).alloc _⟩

/-- A slice of lines of its own, at the head of a block. -/
def OwnLines (w0 : World) (n : Nat) (xs : List Int) (e : Ending) (w' : World) : Prop :=
  ∃ g cap r, e = .returned (.slice (some ⟨g, 0, none⟩) n cap) ∧ w'.heap[g]? = some (.cells (bk xs r) 44 (0, 0)) ∧ w0.heap.size ≤ g ∧ n ≤ cap ∧ Chg [] w0 w'
end Go.Proofs.Ytnocekhgabgffaa
