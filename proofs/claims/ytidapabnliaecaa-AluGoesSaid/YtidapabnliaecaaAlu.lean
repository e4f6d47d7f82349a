/- The map of operations: made, filled, read. No condition. -/
import Derived.Test.YtidapabnliaecaaMem
import Derived.Test.YtidapabnliaecaaChecked
import Derived.WalkKit
import Derived.Maps.OwnOps
namespace Go.Proofs.Ytidapabnliaecaa
open Go.RowKit
set_option linter.unusedVariables false
set_option maxHeartbeats 1000000

/-! ### The map of operations, entry by entry -/
def opRow (r g : Value) : Value := .agg #[r, g]
def fnv (n : Nat) : Value := .func (.func n) #[] #[]
/-- Key and value of the j-th entry. -/
def opKey : Nat → Int
  | 0 => 2 | 1 => 3 | 2 => 4 | 3 => 5 | 4 => 6 | 5 => 7 | 6 => 17 | 7 => 18 | 8 => 19 | _ => 20
def opVal : Nat → Value
  | 0 => opRow (fnv 14) .nilFunc | 1 => opRow (fnv 15) .nilFunc | 2 => opRow (fnv 16) .nilFunc
  | 3 => opRow (fnv 17) .nilFunc | 4 => opRow (fnv 18) .nilFunc | 5 => opRow (fnv 19) .nilFunc
  | 6 => opRow .nilFunc (fnv 20) | 7 => opRow .nilFunc (fnv 21) | 8 => opRow .nilFunc (fnv 22) | _ => opRow .nilFunc (fnv 23)
/-- The map behind j stores. -/
def tbl : Nat → Array MapEntry
  | 0 => #[]
  | j + 1 => (tbl j).push { key := .int .i64 (opKey j), val := opVal j, born := j }
def mapW (W : World) (j : Nat) : World := W.alloc (.map (tbl j) j)
theorem mapW_made (W : World) : (Instr.makeMap 44 none).run Try.prog W = .ok (.map (some W.heap.size)) (mapW W 0) := rfl
theorem alloc_set (W : World) (a b : Obj) : ({ W.alloc a with heap := (W.alloc a).heap.setIfInBounds W.heap.size b } : World) = W.alloc b := by
  refine World.ext_heap ?_ rfl rfl rfl rfl
  show (W.heap.push a).setIfInBounds W.heap.size b = W.heap.push b
  apply Array.ext'
  rw [Array.toList_setIfInBounds, Array.toList_push, Array.toList_push, ← Array.length_toList, List.set_append_right _ _ (Nat.le_refl _)]
  simp
theorem mapW_at (W : World) (j : Nat) : (mapW W j).heap[W.heap.size]? = some (.map (tbl j) j) := (MapKept.heap_alloc W _).1
theorem under_map (w : World) : (underlying 44).run Try.prog w = .ok (.map 3 43) w := run_underlying Try.underlying44 w
theorem check_int (k : Int) (e : Bool) (w : World) : (Instr.checkKey e 10000 3 (.int .i64 k)).run Try.prog w = .ok () w := MapKept.run_checkKey (d := .int .i64) (k := .int .i64 k) Try.underlying3 (by simp [MapKept.IsKey]) e 9999
theorem mapW_put (W : World) (j : Nat) (k : Int) (v : Value) (hk : opKey j = k) (hv : opVal j = v) (h : Instr.findNow (.int .i64) (.int .i64 k) (tbl j).toList 0 = some none) :
    (Instr.mapUpdate 44 (.map (some W.heap.size)) (.int .i64 k) v).run Try.prog (mapW W j) = .ok () (mapW W (j + 1)) := by
  subst hk hv
  have hb := mapW_at W j
  have h2 : ∀ w, (Instr.findKey 3 (.int .i64 (opKey j)) (tbl j).toList).run Try.prog w = .ok none w := fun w => MapKept.run_findKey Try.underlying3 h
  simp only [Instr.mapUpdate, Sem.run_bind, under_map, Result.andThen, getObj, Sem.run, hb, check_int, h2, setObj]
  exact congrArg (Result.ok ()) (alloc_set W (.map (tbl j) j) _)
theorem put0 (W : World) : (Instr.mapUpdate 44 (.map (some W.heap.size)) (.int .i64 2) (.agg #[(.func (.func 14) #[] #[]), .nilFunc])).run Try.prog (mapW W 0) = .ok () (mapW W 1) := mapW_put W 0 2 _ rfl rfl rfl
theorem put1 (W : World) : (Instr.mapUpdate 44 (.map (some W.heap.size)) (.int .i64 3) (.agg #[(.func (.func 15) #[] #[]), .nilFunc])).run Try.prog (mapW W 1) = .ok () (mapW W 2) := mapW_put W 1 3 _ rfl rfl rfl
theorem put2 (W : World) : (Instr.mapUpdate 44 (.map (some W.heap.size)) (.int .i64 4) (.agg #[(.func (.func 16) #[] #[]), .nilFunc])).run Try.prog (mapW W 2) = .ok () (mapW W 3) := mapW_put W 2 4 _ rfl rfl rfl
theorem put3 (W : World) : (Instr.mapUpdate 44 (.map (some W.heap.size)) (.int .i64 5) (.agg #[(.func (.func 17) #[] #[]), .nilFunc])).run Try.prog (mapW W 3) = .ok () (mapW W 4) := mapW_put W 3 5 _ rfl rfl rfl
theorem put4 (W : World) : (Instr.mapUpdate 44 (.map (some W.heap.size)) (.int .i64 6) (.agg #[(.func (.func 18) #[] #[]), .nilFunc])).run Try.prog (mapW W 4) = .ok () (mapW W 5) := mapW_put W 4 6 _ rfl rfl rfl
theorem put5 (W : World) : (Instr.mapUpdate 44 (.map (some W.heap.size)) (.int .i64 7) (.agg #[(.func (.func 19) #[] #[]), .nilFunc])).run Try.prog (mapW W 5) = .ok () (mapW W 6) := mapW_put W 5 7 _ rfl rfl rfl
theorem put6 (W : World) : (Instr.mapUpdate 44 (.map (some W.heap.size)) (.int .i64 17) (.agg #[.nilFunc, (.func (.func 20) #[] #[])])).run Try.prog (mapW W 6) = .ok () (mapW W 7) := mapW_put W 6 17 _ rfl rfl rfl
theorem put7 (W : World) : (Instr.mapUpdate 44 (.map (some W.heap.size)) (.int .i64 18) (.agg #[.nilFunc, (.func (.func 21) #[] #[])])).run Try.prog (mapW W 7) = .ok () (mapW W 8) := mapW_put W 7 18 _ rfl rfl rfl
theorem put8 (W : World) : (Instr.mapUpdate 44 (.map (some W.heap.size)) (.int .i64 19) (.agg #[.nilFunc, (.func (.func 22) #[] #[])])).run Try.prog (mapW W 8) = .ok () (mapW W 9) := mapW_put W 8 19 _ rfl rfl rfl
theorem put9 (W : World) : (Instr.mapUpdate 44 (.map (some W.heap.size)) (.int .i64 20) (.agg #[.nilFunc, (.func (.func 23) #[] #[])])).run Try.prog (mapW W 9) = .ok () (mapW W 10) := mapW_put W 9 20 _ rfl rfl rfl
theorem ops_any (W : World) : Calls Try.prog 13 #[] W fun e w' => e = .returned (.map (some W.heap.size)) ∧ w' = mapW W 10 := by
  have hm := mapW_made
  have h0 := put0 W
  have h1 := put1 W
  have h2 := put2 W
  have h3 := put3 W
  have h4 := put4 W
  have h5 := put5 W
  have h6 := put6 W
  have h7 := put7 W
  have h8 := put8 W
  have h9 := put9 W
  go_enter Try.func13, Try.ntmps13
  go_wp2_with fail
  go_ret
  exact ⟨rfl, rfl⟩
/-! ### What the map says of an operation -/
/-- Who reckons. -/
def recF (op : Int) : Value := if op = 2 then .func (.func 14) #[] #[] else if op = 3 then .func (.func 15) #[] #[] else if op = 4 then .func (.func 16) #[] #[] else if op = 5 then .func (.func 17) #[] #[] else if op = 6 then .func (.func 18) #[] #[] else if op = 7 then .func (.func 19) #[] #[] else .nilFunc
/-- Who tells whether it goes. -/
def goF (op : Int) : Value := if op = 17 then .func (.func 20) #[] #[] else if op = 18 then .func (.func 21) #[] #[] else if op = 19 then .func (.func 22) #[] #[] else if op = 20 then .func (.func 23) #[] #[] else .nilFunc
theorem tbl10 : (tbl 10).toList = [
  { key := .int .i64 2, val := .agg #[.func (.func 14) #[] #[], .nilFunc], born := 0 },
  { key := .int .i64 3, val := .agg #[.func (.func 15) #[] #[], .nilFunc], born := 1 },
  { key := .int .i64 4, val := .agg #[.func (.func 16) #[] #[], .nilFunc], born := 2 },
  { key := .int .i64 5, val := .agg #[.func (.func 17) #[] #[], .nilFunc], born := 3 },
  { key := .int .i64 6, val := .agg #[.func (.func 18) #[] #[], .nilFunc], born := 4 },
  { key := .int .i64 7, val := .agg #[.func (.func 19) #[] #[], .nilFunc], born := 5 },
  { key := .int .i64 17, val := .agg #[.nilFunc, .func (.func 20) #[] #[]], born := 6 },
  { key := .int .i64 18, val := .agg #[.nilFunc, .func (.func 21) #[] #[]], born := 7 },
  { key := .int .i64 19, val := .agg #[.nilFunc, .func (.func 22) #[] #[]], born := 8 },
  { key := .int .i64 20, val := .agg #[.nilFunc, .func (.func 23) #[] #[]], born := 9 }] := rfl
theorem zero_op (w : World) : (zeroValue 43).run Try.prog w = .ok (.agg #[.nilFunc, .nilFunc]) w := by kernel_rfl
theorem look_some {op : Int} {W : World} {b i : Nat} {v : Value} (hb : W.heap[b]? = some (.map (tbl 10) 10)) (h : Instr.findNow (.int .i64) (.int .i64 op) (tbl 10).toList 0 = some (some (i, v))) :
    (Instr.lookup 44 (.map (some b)) (.int .i64 op) false).run Try.prog W = .ok v W := by
  have h2 : ∀ w, (Instr.findKey 3 (.int .i64 op) (tbl 10).toList).run Try.prog w = .ok (some (i, v)) w := fun w => MapKept.run_findKey Try.underlying3 h
  simp only [Instr.lookup, Sem.run_bind, under_map, Result.andThen, getObj, Sem.run, hb, check_int, Sem.run_pure, h2]
  rfl
theorem look_none {op : Int} {W : World} {b : Nat} (hb : W.heap[b]? = some (.map (tbl 10) 10)) (h : Instr.findNow (.int .i64) (.int .i64 op) (tbl 10).toList 0 = some none) :
    (Instr.lookup 44 (.map (some b)) (.int .i64 op) false).run Try.prog W = .ok (.agg #[.nilFunc, .nilFunc]) W := by
  have h2 : ∀ w, (Instr.findKey 3 (.int .i64 op) (tbl 10).toList).run Try.prog w = .ok none w := fun w => MapKept.run_findKey Try.underlying3 h
  simp only [Instr.lookup, Sem.run_bind, under_map, Result.andThen, getObj, Sem.run, hb, check_int, Sem.run_pure, h2, zero_op]
  rfl
theorem look_op (op : Int) (W : World) (b : Nat) (hb : W.heap[b]? = some (.map (tbl 10) 10)) : (Instr.lookup 44 (.map (some b)) (.int .i64 op) false).run Try.prog W = .ok (.agg #[recF op, goF op]) W := by
  by_cases h2 : op = 2
  · subst h2; exact look_some hb rfl
  by_cases h3 : op = 3
  · subst h3; exact look_some hb rfl
  by_cases h4 : op = 4
  · subst h4; exact look_some hb rfl
  by_cases h5 : op = 5
  · subst h5; exact look_some hb rfl
  by_cases h6 : op = 6
  · subst h6; exact look_some hb rfl
  by_cases h7 : op = 7
  · subst h7; exact look_some hb rfl
  by_cases h17 : op = 17
  · subst h17; exact look_some hb rfl
  by_cases h18 : op = 18
  · subst h18; exact look_some hb rfl
  by_cases h19 : op = 19
  · subst h19; exact look_some hb rfl
  by_cases h20 : op = 20
  · subst h20; exact look_some hb rfl
  rw [show recF op = .nilFunc by simp [recF, h2, h3, h4, h5, h6, h7], show goF op = .nilFunc by simp [goF, h17, h18, h19, h20]]
  refine look_none hb ?_
  rw [tbl10]
  have e2 : (op == 2) = false := by simpa using h2
  have e3 : (op == 3) = false := by simpa using h3
  have e4 : (op == 4) = false := by simpa using h4
  have e5 : (op == 5) = false := by simpa using h5
  have e6 : (op == 6) = false := by simpa using h6
  have e7 : (op == 7) = false := by simpa using h7
  have e17 : (op == 17) = false := by simpa using h17
  have e18 : (op == 18) = false := by simpa using h18
  have e19 : (op == 19) = false := by simpa using h19
  have e20 : (op == 20) = false := by simpa using h20
  simp only [Instr.findNow, Instr.sameNow, if_pos, e2, e3, e4, e5, e6, e7, e17, e18, e19, e20]
theorem look_map (op : Int) (W : World) : (Instr.lookup 44 (.map (some W.heap.size)) (.int .i64 op) false).run Try.prog (mapW W 10) = .ok (.agg #[recF op, goF op]) (mapW W 10) := look_op op _ _ (mapW_at W 10)
theorem Chg.mapW (W : World) (j : Nat) : Chg [] W (mapW W j) := (Chg.refl [] W).alloc _
end Go.Proofs.Ytidapabnliaecaa
