/- Messages: their cells, which have a form, what calls of a queue answer and leave. No condition. -/
import Derived.Test.YtadeoflkppiflaaDoorSeo
import Derived.DeepKeys
namespace Go.Proofs.YtadeoflkppiflaaDoor
open Go.RowKit
set_option linter.unusedVariables false

/-- A message. -/
structure Ms where
  kd : Int
  li : Int
  di : Bool
  ke : Bool
  l : List Int
  h : l.length = 8
def Ms.enc (m : Ms) : List Value := .int .i64 m.kd :: .int .i64 m.li :: .bool m.di :: .bool m.ke :: m.l.map (Value.int .u64)
theorem Ms.len (m : Ms) : (Ms.enc m).length = 12 := by simp [Ms.enc, m.h]
theorem Ms.one (m : Ms) : ∀ v ∈ Ms.enc m, v.oneCell' = true := by
  intro v hv
  simp only [Ms.enc, List.mem_cons, List.mem_map] at hv
  rcases hv with rfl | rfl | rfl | rfl | ⟨x, _, rfl⟩ <;> rfl
/-- No message. -/
def msZ : Ms := ⟨0, 0, false, false, [0, 0, 0, 0, 0, 0, 0, 0], rfl⟩
/-- Its cells. -/
def msc (m : Ms) : Array Value := (Ms.enc m).toArray
def msV : Value := .agg (msc msZ)
theorem msV_size : msV.cells.size = 12 := rfl
theorem msV_one : ∀ v ∈ msV.cells, v.oneCell' = true := by intro v hv; exact Ms.one msZ v (by simpa [msV, Value.cells, msc] using hv)
theorem msc_size (m : Ms) : (msc m).size = 12 := by simp [msc, Ms.len]
theorem msc_one (m : Ms) : allOne (msc m) := allOne_list _ (List.all_eq_true.2 (Ms.one m))
theorem msc_kd (m : Ms) : (msc m)[0]? = some (.int .i64 m.kd) := by simp [msc, Ms.enc]
theorem msc_li (m : Ms) : (msc m)[1]? = some (.int .i64 m.li) := by simp [msc, Ms.enc]
theorem msc_di (m : Ms) : (msc m)[2]? = some (.bool m.di) := by simp [msc, Ms.enc]
theorem msc_ke (m : Ms) : (msc m)[3]? = some (.bool m.ke) := by simp [msc, Ms.enc]
theorem msc_part (m : Ms) (t : TypeId) (f : Nat × Nat) : rowPart (some (.cells (msc m) t f)) 4 8 = vs m.l := by
  rw [rowPart_some]
  have : m.l.length = 8 := m.h
  simp [msc, Ms.enc, vs, List.take_of_length_le, this]
theorem msc_in (m : Ms) (t : TypeId) (f : Nat × Nat) : rowIn (some (.cells (msc m) t f)) 4 8 = true := by
  rw [rowIn_some, msc_size]; exact decide_eq_true (show 4 + 8 ≤ 12 by omega)
theorem fold_msc (C : Array Value) (m : Ms) (h : C.size = 12) : Array.foldl (fun cs y => cs.setIfInBounds y.snd y.fst) C (msc m).zipIdx 0 12 = msc m := fold_all _ _ _ (msc_size m) h
/-- A message that was built of its kind, its line and its marks. -/
def ms4 (kd li : Int) (di ke : Bool) : Ms := ⟨kd, li, di, ke, [0, 0, 0, 0, 0, 0, 0, 0], rfl⟩
theorem ms4_lit (kd li : Int) (di ke : Bool) : (#[.int .i64 kd, .int .i64 li, .bool di, .bool ke, .int .u64 0, .int .u64 0, .int .u64 0, .int .u64 0, .int .u64 0, .int .u64 0, .int .u64 0, .int .u64 0] : Array Value) = msc (ms4 kd li di ke) := rfl
theorem msZ_ms4 : msZ = ms4 0 0 false false := rfl
theorem Ms.same {a b : Ms} (h1 : a.kd = b.kd) (h2 : a.li = b.li) (h3 : a.di = b.di) (h4 : a.ke = b.ke) (h5 : a.l = b.l) : a = b := by
  cases a; cases b; simp_all
instance : DecidableEq Ms := fun a b => if h : a.kd = b.kd ∧ a.li = b.li ∧ a.di = b.di ∧ a.ke = b.ke ∧ a.l = b.l then isTrue (Ms.same h.1 h.2.1 h.2.2.1 h.2.2.2.1 h.2.2.2.2) else isFalse (fun e => h (by subst e; exact ⟨rfl, rfl, rfl, rfl, rfl⟩))

/-! ### Which way a kind goes; which messages have a form -/
def asksB (k : Int) : Bool := decide (1 ≤ k) && decide (k ≤ 5)
def answersB (k : Int) : Bool := decide (6 ≤ k) && decide (k ≤ 7)
def tellsB (k : Int) : Bool := decide (8 ≤ k) && decide (k ≤ 14)
def kindB (k : Int) : Bool := decide (1 ≤ k) && decide (k ≤ 14)
def lineB (i : Int) : Bool := decide (0 ≤ i) && decide (i ≤ 63)
def mayD (k : Int) : Bool := k == 3 || k == 6 || k == 7
def mayK (k : Int) : Bool := k == 7
def mayW (k : Int) : Bool := k == 8 || k == 9 || k == 10
def mg (m : Ms) : Bool := kindB m.kd && lineB m.li && (!m.di || mayD m.kd) && (!m.ke || mayK m.kd) && (mayW m.kd || m.di || m.l == [0, 0, 0, 0, 0, 0, 0, 0])
theorem ways_kind (k : Int) : (asksB k || answersB k || tellsB k) = kindB k := by
  rw [Bool.eq_iff_iff]
  simp [asksB, answersB, tellsB, kindB]
  omega
/-- What each kind may have, as it stands in memory. -/
def tabRow (k : Int) : List Value := [.bool (mayD k), .bool (mayK k), .bool (mayW k)]
def tabL : List Value := ((List.range 15).map fun k : Nat => tabRow k).flatten
def Tab (w : World) : Prop := ∃ t f, w.heap[1]? = some (.cells tabL.toArray t f)
theorem Tab.keep {w w' : World} {l : List Nat} (h : Tab w) (hc : Chg l w w') (h0 : 1 ∉ l) : Tab w' := by
  obtain ⟨t, f, h⟩ := h
  exact ⟨t, f, hc.keep h h0⟩
theorem Tab.old {w : World} (h : Tab w) : Old w 1 := by
  obtain ⟨t, f, h⟩ := h
  exact Go.Proofs.YtadeoflkppiflaaDoor.old h
theorem tab_row (k : Nat) (h : k < 15) (t : TypeId) (f : Nat × Nat) : rowIn (some (.cells tabL.toArray t f)) (k * 3) 3 = true ∧ rowPart (some (.cells tabL.toArray t f)) (k * 3) 3 = #[.bool (mayD k), .bool (mayK k), .bool (mayW k)] := by
  have : k = 0 ∨ k = 1 ∨ k = 2 ∨ k = 3 ∨ k = 4 ∨ k = 5 ∨ k = 6 ∨ k = 7 ∨ k = 8 ∨ k = 9 ∨ k = 10 ∨ k = 11 ∨ k = 12 ∨ k = 13 ∨ k = 14 := by omega
  rcases this with rfl | rfl | rfl | rfl | rfl | rfl | rfl | rfl | rfl | rfl | rfl | rfl | rfl | rfl | rfl <;> exact ⟨rfl, rfl⟩

/-! ### What calls of a queue answer and leave -/
def pushVal (xs : List Ms) (m : Ms) : Int := if mg m = true then (if 1000 ≤ xs.length then 13 else 0) else 11
def pushXs (xs : List Ms) (m : Ms) : List Ms := if mg m = true ∧ xs.length < 1000 then xs ++ [m] else xs
def headM (xs : List Ms) : Ms := xs.headD msZ
def someB (xs : List Ms) : Bool := !xs.isEmpty
end Go.Proofs.YtadeoflkppiflaaDoor
