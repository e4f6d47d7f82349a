/- What the calls of package nvm return, and what they leave: walked. No condition. -/
import Derived.Test.YtadeoflkppiflaaDoorMem
import Derived.Test.YtadeoflkppiflaaDoorChecked
import Derived.Laws.LoneSync
import Derived.Lib.SliceRun
import Derived.Deep.RegionHeld3
import Derived.Deep.QuietTactic
import Derived.BigQuiet
import Derived.Deep.RegionWith
namespace Go.Proofs.YtadeoflkppiflaaDoor
open Go.RowKit
set_option linter.unusedVariables false
theorem wideLine : Wide Tryd.prog 33 8 := ⟨⟨_, Tryd.underlying33, by rfl⟩, by kernel_rfl⟩
theorem loadLine (x : Value) : Instr.loadAt 33 x = loadS 33 8 x := rfl
theorem storeLine (x y : Value) : Instr.storeAt 33 x y = storeS 33 8 x y := rfl
attribute [local go_sem ↓] append_appS copy_copS clear_clrS make_mkS cell_row frozen_row loadLine storeLine heap_drew heap_drewN heap_alloc heap_past heap_setCell heap_putRow
attribute [local go_sem] rowCell_some rowFrozen_some rowHas_some rowIn_some rowPart_full rowPart_lit rowPut_full rowPut_lit rowSet_some size_putRow vs_size vs_one wideLine run_loadS run_storeS run_appS run_copS run_clrS run_mkS loadW_at storeW_at fit_all one_int one_bool one_pointer one_slice allOne_list putRow_new ne_size1 ne_size2 ne_size3 ne_size4
attribute [local simp ↓] heap_drew heap_drewN heap_alloc heap_past heap_setCell heap_putRow
attribute [local simp] rowCell_some rowFrozen_some rowHas_some rowIn_some rowPart_full rowPart_lit rowPut_full rowPut_lit rowSet_some size_putRow vs_size fit_all putRow_new ne_size1 ne_size2 ne_size3 ne_size4

/-! ### The device -/
def devCells (b n v r wr : Nat) : Array Value := #[.slice (some ⟨b, 0, none⟩) n n, .int .i64 v, .int .u64 r, .int .u64 wr]
/-- Two results, the first one a line in memory. -/
theorem results_line2 {fn : Func} {p t : Tmp} (h : fn.results = #[.cell p 33, .tmp t]) (tmps : Array Value) (w : World) (b : Nat) (l : List Int) (fr : Nat × Nat)
    (hp : tmps.getD p undef = .pointer (some ⟨b, 0, none⟩)) (hb : w.heap[b]? = some (.cells (vs l) 33 fr)) (hl : l.length = 8) (x : Value) (hx : tmps.getD t undef = x) :
    (results fn tmps).run Tryd.prog w = .ok (.tuple #[.agg (vs l), x]) w := by
  subst hx
  have hp' : tmps[p]?.getD undef = .pointer (some ⟨b, 0, none⟩) := by simpa using hp
  have := run_loadVar_row (P := Tryd.prog) w b 33 33 (vs l) fr _ hb Tryd.underlying33 rfl (by rw [vs_size, hl]; kernel_rfl)
  simp [results, h, hp', asAddr, this]
/-- A line of words 0. -/
def zero8 : List Int := [0, 0, 0, 0, 0, 0, 0, 0]

theorem zero8_length : zero8.length = 8 := rfl
attribute [local go_sem] zero8_length
attribute [local simp] zero8_length

/-! ### Images -/
theorem line_info : (Tryd.prog.info? 33).map (fun i => (i.zero, i.size, i.bytes)) = some (some (.agg (vs zero8)), 8, 64) := by kernel_rfl

/-- A slice of lines of its own, at the head of a block. -/
def OwnLines (w0 : World) (n : Nat) (xs : List Int) (e : Ending) (w' : World) : Prop :=
  ∃ g cap r, e = .returned (.slice (some ⟨g, 0, none⟩) n cap) ∧ w'.heap[g]? = some (.cells (bk xs r) 33 (0, 0)) ∧ w0.heap.size ≤ g ∧ n ≤ cap ∧ Chg [] w0 w'
end Go.Proofs.YtadeoflkppiflaaDoor
