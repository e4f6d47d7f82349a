/- Arguments that are arrays and structs of integers, opened. -/
import Derived.Test.YtnocekhgabgffaaKit
namespace Go.Proofs.Ytnocekhgabgffaa
open Go.ChangeShapes Go.WideShapes Go.ChangeAt Go.RowKit

section
variable {H : Type} {enc : TypeId × Value → H} {P : Program} {w : World} {base base' : Nat} {spare : Nat → Bool} {held : Bool}

theorem ints_of_cells {k : IntKind} : ∀ (cs : List Value), (∀ i, i < cs.length → ∃ m, cs[i]? = some (.int k m) ∧ (Lit.int k m).wf = true) → ∃ ns : List Int, cs = ns.map (Value.int k) ∧ ∀ x ∈ ns, (Lit.int k x).wf = true
  | [], _ => ⟨[], rfl, by simp⟩
  | c :: cs, h => by
    obtain ⟨m, h0, hw⟩ := h 0 (by simp)
    obtain ⟨ns, e, hn⟩ := ints_of_cells cs (fun i hi => by have := h (i + 1) (by simpa using hi); simpa using this)
    simp at h0
    subst h0; subst e
    exact ⟨m :: ns, rfl, by simpa [hw] using hn⟩

/-- An array of integers. -/
theorem open_int_array {t e : TypeId} {n : Nat} {k : IntKind} {v : Value} {d : DataW H} {ps : List MemPlace} (ht : P.underlying t = some (.array n e)) (he : P.underlying e = some (.int k)) (hce : P.cellsOf e = 1) (hct : P.cellsOf t = n)
    (hok : Value.okWide P w .any base' t v) (h : DataW.Trod enc P w base spare held t v d ps) : ∃ ns : List Int, ns.length = n ∧ v = .agg (ns.map (Value.int k)).toArray ∧ ∀ x ∈ ns, (Lit.int k x).wf = true := by
  simp only [Value.okWide, ht] at hok
  obtain ⟨cs, rfl, hsz, _⟩ := hok
  obtain ⟨fuel, hf⟩ := h
  obtain ⟨xs, m, _, _, hl, hxl, hx⟩ := DataW.trod_array ht hf
  obtain ⟨l⟩ := cs
  simp only [Value.cells] at hl hx
  rw [hct] at hl
  obtain ⟨ns, e1, hns⟩ := ints_of_cells (k := k) l (fun i hi => by
    have hi' : i < n := by omega
    have h1 := hx i hi'
    rw [hce, Nat.mul_one, List.getElem?_eq_getElem (by omega : i < xs.length)] at h1
    obtain ⟨q, h2, _, hw⟩ := DataW.trod_int he h1
    refine ⟨q, ?_, hw⟩
    have := congrArg (·[0]?) h2
    simpa [List.getElem?_take, hi] using this)
  subst e1
  exact ⟨ns, by simpa using hl, by simp, hns⟩

/-- A struct of integers of one kind. -/
theorem open_int_struct {t e : TypeId} {fs : Array Field} {k : IntKind} {v : Value} {d : DataW H} {ps : List MemPlace} (ht : P.underlying t = some (.struct fs)) (he : P.underlying e = some (.int k)) (hce : P.cellsOf e = 1) (hct : P.cellsOf t = fs.size)
    (hfs : ∀ (i : Nat) (f : Field), fs[i]? = some f → f.type = e ∧ f.offset = i)
    (hok : Value.okWide P w .any base' t v) (h : DataW.Trod enc P w base spare held t v d ps) : ∃ ns : List Int, ns.length = fs.size ∧ v = .agg (ns.map (Value.int k)).toArray ∧ ∀ x ∈ ns, (Lit.int k x).wf = true := by
  simp only [Value.okWide, ht] at hok
  obtain ⟨cs, rfl, hsz, _⟩ := hok
  obtain ⟨fuel, hf⟩ := h
  obtain ⟨xs, m, _, _, hl, hxl, hx⟩ := DataW.trod_struct ht hf
  obtain ⟨l⟩ := cs
  simp only [Value.cells] at hl hx
  rw [hct] at hl
  obtain ⟨ns, e1, hns⟩ := ints_of_cells (k := k) l (fun i hi => by
    have hi' : i < fs.size := by omega
    obtain ⟨f1, f2⟩ := hfs i fs[i] (by simp [hi'])
    have h1 := hx i fs[i] (by simp [hi'])
    rw [f1, f2, hce, List.getElem?_eq_getElem (by omega : i < xs.length)] at h1
    obtain ⟨q, h2, _, hw⟩ := DataW.trod_int he h1
    refine ⟨q, ?_, hw⟩
    have := congrArg (·[0]?) h2
    simpa [List.getElem?_take, hi] using this)
  subst e1
  exact ⟨ns, by simpa using hl, by simp, hns⟩
end

theorem list4 {α : Type} (l : List α) (h : l.length = 4) : ∃ a b c d, l = [a, b, c, d] := by
  match l, h with
  | [a, b, c, d], _ => exact ⟨a, b, c, d, rfl⟩
theorem list7 {α : Type} (l : List α) (h : l.length = 7) : ∃ a b c d e f g, l = [a, b, c, d, e, f, g] := by
  match l, h with
  | [a, b, c, d, e, f, g], _ => exact ⟨a, b, c, d, e, f, g, rfl⟩
theorem list8 {α : Type} (l : List α) (h : l.length = 8) : ∃ a b c d e f g i, l = [a, b, c, d, e, f, g, i] := by
  match l, h with
  | [a, b, c, d, e, f, g, i], _ => exact ⟨a, b, c, d, e, f, g, i, rfl⟩
end Go.Proofs.Ytnocekhgabgffaa
