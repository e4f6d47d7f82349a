/- Texts of the walk, one behind the other: Kit Mem Laid Open Args. No condition. -/
import Derived.Below
import Derived.BigQuiet
import Derived.ChangeArms
import Derived.ChangeKeysEq
import Derived.Deep.MidRow
import Derived.Handed
import Derived.LaidHandle
import Derived.LaidMore
import Derived.Lib.Hide
import Derived.OpenShut
import Derived.ProofKit
import Derived.Stop.Joined
import Derived.WalkKit
import Derived.WideShapes
section
namespace Go.Proofs.YtcjoinhngdfdmaaGreatDoor
open Go.ChangeShapes Go.WideShapes Go.ChangeAt Go.RowKit

section
variable {H : Type} {enc : TypeId × Value → H} {P : Program}

/-- Arguments read as they did where nothing below the old heap's size has changed. -/
theorem trodAll_stay (hl : laidOutB P = true) {W W' : World} (hb : Below W.heap.size W W') : ∀ {ts : List TypeId} {vs : List Value} {ds : List (DataW H)} {ps : List MemPlace},
    (∀ t ∈ ts, P.readableRec t = true ∧ t < P.types.size) → DataW.TrodAll enc P W 0 (fun _ => true) true ts vs ds ps → (∀ x ∈ ps, x.block < W.heap.size) →
    DataW.TrodAll enc P W' 0 (fun b => decide (b < W.heap.size)) true ts vs ds ps
  | [], _, _, _, _, h, _ => by
    obtain ⟨rfl, rfl, rfl⟩ := trodAll_nil h
    exact rfl
  | t :: ts, _, _, _, hts, h, hlt => by
    obtain ⟨v, vs1, d, ds1, a, b, rfl, rfl, rfl, h1, h2⟩ := trodAll_cons h
    have ht := hts t (List.mem_cons_self ..)
    exact ⟨a, b, Below.trod hl ht.1 ht.2 h1 hb (fun x hx => hlt x (List.mem_append_left _ hx)),
      trodAll_stay hl hb (fun t' h' => hts t' (List.mem_cons_of_mem _ h')) h2 (fun x hx => hlt x (List.mem_append_right _ hx)), rfl⟩

theorem trodAll_lengths {w : World} {base : Nat} {sp : Nat → Bool} {hd : Bool} : ∀ {ts : List TypeId} {vs : List Value} {ds : List (DataW H)} {ps : List MemPlace}, DataW.TrodAll enc P w base sp hd ts vs ds ps → ds.length = ts.length
  | [], _, _, _, h => by obtain ⟨rfl, rfl, rfl⟩ := trodAll_nil h; rfl
  | t :: ts, _, _, _, h => by
    obtain ⟨v, vs1, d, ds1, a, b, rfl, rfl, rfl, h1, h2⟩ := trodAll_cons h
    simp [trodAll_lengths h2]

end

/-! ### A REGION THAT DRAWS ITS ORDER, whose operations only read and whose callees make memory but change none that was there: one walk serves every order. -/
/-- A world behind W: below block N all is as it was. -/
def Aft (N : Nat) (W : World) : Type := { w : World // Below N W w }
/-- The world itself. -/
def Aft.w {N : Nat} {W : World} (x : Aft N W) : World := x.val
theorem Aft.below {N : Nat} {W : World} (x : Aft N W) : Below N W x.w := x.property
instance {N : Nat} {W : World} : Nonempty (Aft N W) := ⟨⟨W, Below.refl _ _⟩⟩
theorem Aft.size {N : Nat} {W : World} (x : Aft N W) : W.heap.size ≤ x.w.heap.size := x.below.size
theorem Aft.block {N : Nat} {W : World} (x : Aft N W) {k : Nat} (h : k < N) : x.w.heap[k]? = W.heap[k]? := x.below.block k h
theorem Aft.cell {N : Nat} {W : World} (x : Aft N W) {b : Nat} (h : b < N) (o : Nat) : x.w.cell? ⟨b, o, none⟩ = W.cell? ⟨b, o, none⟩ := x.below.cell (p := ⟨b, o, none⟩) h
theorem calls_aft {P : Program} {f : FuncId} {args : Array Value} {N : Nat} {W : World} {x : Aft N W} {v : Value} (hN : N ≤ W.heap.size)
    (h : Calls P f args x.w fun e w' => e = .returned v ∧ Below x.w.heap.size x.w w') : Calls P f args x.w fun e w'' => e = .returned v ∧ ∃ y : Aft N W, w'' = y.w :=
  h.mono fun _ _ ⟨he, hb⟩ => ⟨he, ⟨⟨_, x.below.trans (hb.mono (Nat.le_trans hN x.size))⟩, rfl⟩⟩
theorem calls_aft_same {P : Program} {f : FuncId} {args : Array Value} {N : Nat} {W : World} {x : Aft N W} {v : Value}
    (h : Calls P f args x.w fun e w' => e = .returned v ∧ x.w = w') : Calls P f args x.w fun e w'' => e = .returned v ∧ ∃ y : Aft N W, w'' = y.w :=
  h.mono fun _ _ ⟨he, hb⟩ => ⟨he, x, hb.symm⟩

theorem wp_region_aft {P : Program} {id : Nat} {Q : Exit → Act → World → Prop} {a : Act} {w : World} {l : List Oper} (N : Nat) (hm : P.follows .mixedOrders = true) (hB : Region.lexB .any l.toArray = true)
    (h : wpQuiet P l.toArray (fun w' => ∃ x : Aft N w, w' = x.w) (fun a' => ∀ w', (∃ x : Aft N w, w' = x.w) → Q .normal a' w') l a) : (Code.region id l.toArray true).wp P Q a w :=
  wp_region_quiet (C := fun w' => ∃ x : Aft N w, w' = x.w) hm hB ⟨⟨_, (Below.refl _ _).drew⟩, rfl⟩ (by simpa using h)

/-! ### '==' of two arrays of integers. -/
theorem eqItems_ints {P : Program} (w : World) (d : Nat) {e : TypeId} {k : IntKind} (he : P.underlying e = some (.int k)) (hc : P.cellsOf e = 1) (ns ms : List Int) : ∀ (is : List Nat), (∀ i ∈ is, i < ns.length ∧ i < ms.length) →
    (Op.eqItems (d + 1) e 1 (ns.map (Value.int k)).toArray (ms.map (Value.int k)).toArray is).run P w = .ok (is.all fun i => ns.getD i 0 == ms.getD i 0) w
  | [], _ => by simp [Op.eqItems]
  | i :: is, h => by
    obtain ⟨h1, h2⟩ := h i (by simp)
    have p1 : (part e (ns.map (Value.int k)).toArray i).run P w = .ok (.int k (ns.getD i 0)) w := run_part_plain w (by simp [Program.plainKey, he]) (by simp [h1])
    have p2 : (part e (ms.map (Value.int k)).toArray i).run P w = .ok (.int k (ms.getD i 0)) w := run_part_plain w (by simp [Program.plainKey, he]) (by simp [h2])
    have ih := eqItems_ints w d he hc ns ms is (fun j hj => h j (by simp [hj]))
    simp only [Op.eqItems, Nat.mul_one, Sem.run_bind, p1, p2, Result.andThen_ok, run_equalIn_int w d e k k _ _ he]
    cases hb : (ns.getD i 0 == ms.getD i 0)
    · simp at hb; simp [hb]
    · simp at hb; simp [hb, ih]
theorem eq_ints_array {P : Program} (w : World) {t e : TypeId} {n : Nat} {i : TypeInfo} {k : IntKind} (hu : P.underlying t = some (.array n e)) (hi : P.info? e = some i) (he : P.underlying e = some (.int k)) (hc : P.cellsOf e = 1) (ns ms : List Int)
    (hn : ns.length = n) (hm : ms.length = n) : (Op.equalIn 10000 t (.agg (ns.map (Value.int k)).toArray) (.agg (ms.map (Value.int k)).toArray)).run P w = .ok (ns == ms) w := by
  rw [run_equalIn_array w 9999 _ _ hu hi, hc, eqItems_ints w 9998 he hc ns ms _ (by intro i hi; simp at hi; omega)]
  congr 1
  rw [Bool.eq_iff_iff]
  simp only [List.all_eq_true, List.mem_range, beq_iff_eq]
  constructor
  · intro h
    apply List.ext_getElem (by omega)
    intro j h1 h2
    have := h j (by omega)
    simpa [h1, h2] using this
  · rintro rfl j _; rfl
end Go.Proofs.YtcjoinhngdfdmaaGreatDoor
end
section
namespace Go.Proofs.YtcjoinhngdfdmaaGreatDoor
open Go.RowKit
set_option linter.unusedVariables false

/-! ### What a block holds -/
/-- A cell of a block. -/
def rowCell : Option Obj → Nat → Option Value
  | some (.cells c _ _), o => c[o]?
  | _, _ => none
theorem rowCell_some (c : Array Value) (t : TypeId) (f : Nat × Nat) (o : Nat) : rowCell (some (.cells c t f)) o = c[o]? := rfl
theorem cell_row (w : World) (b o : Nat) : w.cell? ⟨b, o, none⟩ = rowCell (w.heap[b]?) o := by
  unfold World.cell? rowCell
  cases h : w.heap[b]? with
  | none => simp
  | some x => cases x <;> simp
/-- May a cell of a block not be written? -/
def rowFrozen : Option Obj → Nat → Bool
  | some (.cells _ _ (lo, hi)), o => lo ≤ o && o < hi
  | _, _ => false
theorem rowFrozen_some (c : Array Value) (t : TypeId) (o : Nat) : rowFrozen (some (.cells c t (0, 0))) o = false := by simp [rowFrozen]
theorem frozen_row (w : World) (b o : Nat) : w.frozen? ⟨b, o, none⟩ = rowFrozen (w.heap[b]?) o := by
  unfold World.frozen? rowFrozen
  cases h : w.heap[b]? with
  | none => simp
  | some x => cases x <;> simp

/-- n cells from place o on, of a block of so many. -/
def Fit (o n size : Nat) : Prop := o + n ≤ size
instance (o n size : Nat) : Decidable (Fit o n size) := inferInstanceAs (Decidable (o + n ≤ size))
theorem Fit.out {o n size : Nat} (h : Fit o n size) : o + n ≤ size := h
theorem Fit.all (n : Nat) : Fit 0 n n := by unfold Fit; omega

/-- Some cells of a block. -/
def rowIn : Option Obj → Nat → Nat → Bool
  | some (.cells c _ _), o, n => decide (Fit o n c.size)
  | _, _, _ => false
theorem rowIn_some (c : Array Value) (t : TypeId) (f : Nat × Nat) (o n : Nat) : rowIn (some (.cells c t f)) o n = decide (Fit o n c.size) := rfl
/-- Some cells of a block, all of which may be written. -/
def rowHas : Option Obj → Nat → Nat → Bool
  | some (.cells c _ f), o, n => decide (Fit o n c.size) && f == (0, 0)
  | _, _, _ => false
theorem rowHas_some (c : Array Value) (t : TypeId) (o n : Nat) : rowHas (some (.cells c t (0, 0))) o n = decide (Fit o n c.size) := by simp [rowHas]
/-- These cells. -/
def rowPart : Option Obj → Nat → Nat → Array Value
  | some (.cells c _ _), o, n => (c.toList.drop o |>.take n).toArray
  | _, _, _ => #[]
theorem rowPart_some (c : Array Value) (t : TypeId) (f : Nat × Nat) (o n : Nat) : rowPart (some (.cells c t f)) o n = (c.toList.drop o |>.take n).toArray := rfl
theorem rowPart_full (c : Array Value) (t : TypeId) (f : Nat × Nat) (n : Nat) (h : c.size = n) : rowPart (some (.cells c t f)) 0 n = c := by
  subst h
  rw [rowPart_some, List.drop_zero, List.take_of_length_le (by simp), Array.toArray_toList]
theorem rowPart_lit (c : List Value) (t : TypeId) (f : Nat × Nat) (o n : Nat) : rowPart (some (.cells c.toArray t f)) o n = (c.drop o |>.take n).toArray := by rw [rowPart_some]
/-- Some cells of a list replaced. -/
def splice {α : Type} (xs : List α) (o : Nat) (vs : List α) : List α := xs.take o ++ vs ++ xs.drop (o + vs.length)
theorem length_splice {α : Type} (xs : List α) (o : Nat) (vs : List α) (h : o + vs.length ≤ xs.length) : (splice xs o vs).length = xs.length := by simp [splice]; omega
theorem splice_all {α : Type} (xs vs : List α) (h : vs.length = xs.length) : splice xs 0 vs = vs := by simp [splice, h]
theorem splice_cons {α : Type} (xs : List α) (o : Nat) (v : α) (vs : List α) (h : o < xs.length) : splice (xs.set o v) (o + 1) vs = splice xs o (v :: vs) := by
  have e : xs.set o v = xs.take o ++ v :: xs.drop (o + 1) := List.set_eq_take_append_cons_drop.trans (if_pos h)
  have h2 : (xs.take o ++ v :: xs.drop (o + 1)).drop (o + 1 + vs.length) = xs.drop (o + 1 + vs.length) := by
    have e1 : (List.take o xs).length = o := by simp; omega
    have e2 : (xs.take o ++ v :: xs.drop (o + 1)) = (xs.take o ++ [v]) ++ xs.drop (o + 1) := by simp
    rw [e2, List.drop_append]
    have e3 : (List.take o xs ++ [v]).length = o + 1 := by simp; omega
    have e4 : (List.take o xs ++ [v]).drop (o + 1 + vs.length) = [] := List.drop_eq_nil_of_le (by rw [e3]; omega)
    rw [e3, e4, List.drop_drop, List.nil_append]
    congr 1
    omega
  have h3 : (xs.set o v).take (o + 1) = xs.take o ++ [v] := by
    rw [List.take_succ_eq_append_getElem (by simpa using h)]
    simp [List.take_set_of_le (Nat.le_refl o)]
  unfold splice
  rw [h3, e, h2]
  simp [Nat.add_assoc, Nat.add_comm 1]
/-- A block with some of its cells replaced. -/
def rowPut : Option Obj → Nat → Array Value → Option Obj
  | some (.cells c t f), o, vs => some (.cells (splice c.toList o vs.toList).toArray t f)
  | x, _, _ => x
theorem rowPut_some (c : Array Value) (t : TypeId) (f : Nat × Nat) (o : Nat) (vs : Array Value) : rowPut (some (.cells c t f)) o vs = some (.cells (splice c.toList o vs.toList).toArray t f) := rfl
theorem rowPut_full (c : Array Value) (t : TypeId) (f : Nat × Nat) (vs : Array Value) (h : vs.size = c.size) : rowPut (some (.cells c t f)) 0 vs = some (.cells vs t f) := by
  rw [rowPut_some, splice_all _ _ (by simpa using h)]
theorem rowPut_lit (c v : List Value) (t : TypeId) (f : Nat × Nat) (o : Nat) : rowPut (some (.cells c.toArray t f)) o v.toArray = some (.cells (c.take o ++ v ++ c.drop (o + v.length)).toArray t f) := by rw [rowPut_some]; rfl
/-- A block with one cell replaced. -/
def rowSet : Option Obj → Nat → Value → Option Obj
  | some (.cells c t f), o, v => some (.cells (c.setIfInBounds o v) t f)
  | x, _, _ => x
theorem rowSet_some (c : Array Value) (t : TypeId) (f : Nat × Nat) (o : Nat) (v : Value) : rowSet (some (.cells c t f)) o v = some (.cells (c.setIfInBounds o v) t f) := rfl

/-! ### Blocks of other worlds -/
theorem heap_drew (w : World) (b : Nat) : w.drew.heap[b]? = w.heap[b]? := rfl
theorem heap_drewN (w : World) (n b : Nat) : (w.drewN n).heap[b]? = w.heap[b]? := rfl
theorem heap_alloc (w : World) (o : Obj) (b : Nat) : (w.alloc o).heap[b]? = (w.heap[b]?).or (if b = w.heap.size then some o else none) := by
  rcases Nat.lt_trichotomy b w.heap.size with h | h | h
  · rw [Below.heap_alloc w o b h, Array.getElem?_eq_getElem h]; rfl
  · subst h; rw [(MapKept.heap_alloc w o).1]; simp
  · have h1 : (w.alloc o).heap[b]? = none := Array.getElem?_eq_none (by simp; omega)
    have h2 : w.heap[b]? = none := Array.getElem?_eq_none (by omega)
    rw [h1, h2]; simp; omega
theorem heap_past (w : World) (n : Nat) : w.heap[w.heap.size + n]? = none := Array.getElem?_eq_none (by omega)
theorem heap_setCell (w : World) (b o : Nat) (v : Value) (k : Nat) : (w.setCell ⟨b, o, none⟩ v).heap[k]? = if k = b then rowSet (w.heap[b]?) o v else w.heap[k]? := by
  unfold World.setCell
  simp only [Array.getElem?_modify]
  by_cases h : b = k
  · subst h
    simp only [if_true]
    cases e : w.heap[b]? with
    | none => rfl
    | some x => cases x <;> simp [rowSet]
  · rw [if_neg h, if_neg (fun e => h e.symm)]
theorem size_setCells (b : Nat) : ∀ (vs : List Value) (o : Nat) (w : World), (w.setCells b o vs).heap.size = w.heap.size
  | [], _, _ => rfl
  | v :: vs, o, w => by rw [World.setCells, size_setCells b vs]; simp
theorem heap_setCells (b k : Nat) : ∀ (vs : List Value) (o : Nat) (w : World), rowHas (w.heap[b]?) o vs.length = true → (w.setCells b o vs).heap[k]? = if k = b then rowPut (w.heap[b]?) o vs.toArray else w.heap[k]?
  | [], o, w, h => by
    simp only [World.setCells]
    split
    · rename_i e; subst e
      cases e : w.heap[k]? with
      | none => rfl
      | some x => cases x <;> simp [rowPut, splice]
    · rfl
  | v :: vs, o, w, h => by
    have h1 : rowHas ((w.setCell ⟨b, o, none⟩ v).heap[b]?) (o + 1) vs.length = true := by
      rw [heap_setCell, if_pos rfl]
      cases e : w.heap[b]? with
      | none => rw [e] at h; exact h
      | some x =>
        rw [e] at h
        cases x with
        | cells c t f =>
          simp only [rowHas, rowSet, Bool.and_eq_true, decide_eq_true_eq, List.length_cons, Array.size_setIfInBounds] at h ⊢
          exact ⟨by have := h.1.out; unfold Fit; omega, h.2⟩
        | _ => simp [rowHas] at h
    rw [World.setCells, heap_setCells b k vs (o + 1) _ h1, heap_setCell, heap_setCell, if_pos rfl]
    split
    · cases e : w.heap[b]? with
      | none => rfl
      | some x =>
        rw [e] at h
        cases x with
        | cells c t f =>
          simp only [rowHas, Bool.and_eq_true, decide_eq_true_eq, List.length_cons] at h
          have := h.1.out
          simp only [rowSet, rowPut, Array.toList_setIfInBounds]
          rw [splice_cons _ _ _ _ (by simp; omega)]
        | _ => simp [rowHas] at h
    · rfl

theorem fit_le {a b c : Nat} (h : a + b ≤ c) : Fit a b c = True := by simp [Fit, h]
theorem fit_all (n : Nat) : Fit 0 n n = True := by simp [Fit.all]
/-- A value that is one cell; an array of such. -/
def allOne (cs : Array Value) : Prop := cs.all (·.oneCell') = true
theorem allOne_list (l : List Value) (h : l.all (·.oneCell') = true) : allOne l.toArray := by
  unfold allOne; rw [List.all_toArray]; exact h
theorem one_int (k : IntKind) (n : Int) : (Value.int k n).oneCell' = true := rfl
theorem one_bool (b : Bool) : (Value.bool b).oneCell' = true := rfl
theorem one_pointer (p : Option Addr) : (Value.pointer p).oneCell' = true := rfl
theorem one_slice (p : Option Addr) (l c : Nat) : (Value.slice p l c).oneCell' = true := rfl
/-- Some cells of a world's block replaced. -/
def putRow (w : World) (b o : Nat) (cs : Array Value) : World := w.setCells b o cs.toList
theorem size_putRow (w : World) (b o : Nat) (cs : Array Value) : (putRow w b o cs).heap.size = w.heap.size := size_setCells b _ _ _
theorem heap_putRow (w : World) (b o : Nat) (cs : Array Value) (k : Nat) (h : rowHas (w.heap[b]?) o cs.size = true) : (putRow w b o cs).heap[k]? = if k = b then rowPut (w.heap[b]?) o cs else w.heap[k]? := by
  unfold putRow; rw [heap_setCells b k cs.toList o w (by simpa using h), Array.toArray_toList]
theorem World.ext_heap {a b : World} (h : a.heap = b.heap) (ht : a.tape = b.tape) (hd : a.drawn = b.drawn) (ho : a.os = b.os) (hu : a.output = b.output) : a = b := by
  cases a; cases b; simp_all
theorem setCells_rest (b : Nat) : ∀ (vs : List Value) (o : Nat) (w : World), (w.setCells b o vs).tape = w.tape ∧ (w.setCells b o vs).drawn = w.drawn ∧ (w.setCells b o vs).os = w.os ∧ (w.setCells b o vs).output = w.output
  | [], _, _ => ⟨rfl, rfl, rfl, rfl⟩
  | v :: vs, o, w => by
    obtain ⟨h1, h2, h3, h4⟩ := setCells_rest b vs (o + 1) (w.setCell ⟨b, o, none⟩ v)
    exact ⟨h1, h2, h3, h4⟩
/-- A new block, all of which is replaced. -/
theorem putRow_new (w : World) (c cs : Array Value) (t : TypeId) (h : cs.size = c.size) : putRow (w.alloc (.cells c t)) w.heap.size 0 cs = w.alloc (.cells cs t) := by
  obtain ⟨h1, h2, h3, h4⟩ := setCells_rest w.heap.size cs.toList 0 (w.alloc (.cells c t))
  refine World.ext_heap (Array.ext_getElem? fun k => ?_) h1 h2 h3 h4
  rw [heap_putRow _ _ _ _ _ (by rw [heap_alloc]; simp [rowHas, h, Fit]), heap_alloc, heap_alloc, heap_alloc]
  by_cases hk : k = w.heap.size
  · subst hk; simp [rowPut_full, h]
  · simp [hk]

/-! ### A value of many cells is loaded, is stored -/
/-- A type of many cells. -/
def Wide (P : Program) (ty : TypeId) (n : Nat) : Prop := (∃ d, P.underlying ty = some d ∧ d.isRow = true) ∧ (P.info? ty).map (·.size) = some n
/-- The load, the store, where nothing better is known of them. -/
def loadElse (P : Program) (ty : TypeId) (b o : Nat) (w : World) : Result Value := (Instr.loadAt ty (.pointer (some ⟨b, o, none⟩))).run P w
def storeElse (P : Program) (ty : TypeId) (b o : Nat) (cs : Array Value) (w : World) : Result Unit := (Instr.storeAt ty (.pointer (some ⟨b, o, none⟩)) (.agg cs)).run P w
theorem load_wide {P : Program} {ty : TypeId} {n : Nat} (hW : Wide P ty n) (w : World) (b o : Nat) : (Instr.loadAt ty (.pointer (some ⟨b, o, none⟩))).run P w =
    if rowIn (w.heap[b]?) o n = true then .ok (.agg (rowPart (w.heap[b]?) o n)) w else loadElse P ty b o w := by
  split
  · rename_i h
    obtain ⟨⟨d, hu, hd⟩, hi⟩ := hW
    cases e : w.heap[b]? with
    | none => rw [e] at h; cases h
    | some x =>
      rw [e] at h
      cases x with
      | cells c t f =>
        have hf : o + n ≤ c.size := by simp [rowIn] at h; exact h.out
        refine run_loadAt_mid w b o ty ((c.toList.drop o).take n) d ?_ hu hd (by rw [hi]; simp; omega)
        have := World.rangeAt_of_block e o n
        have e2 : (c.extract o (o + n)).toList = (c.toList.drop o).take n := by simp
        rwa [e2] at this
      | _ => simp [rowIn] at h
  · rfl
open Classical in
theorem store_wide {P : Program} {ty : TypeId} {n : Nat} (hi : (P.info? ty).map (·.size) = some n) (w : World) (b o : Nat) (cs : Array Value) : (Instr.storeAt ty (.pointer (some ⟨b, o, none⟩)) (.agg cs)).run P w =
    if rowHas (w.heap[b]?) o n = true ∧ cs.size = n ∧ allOne cs then .ok () (putRow w b o cs) else storeElse P ty b o cs w := by
  split
  · rename_i h
    obtain ⟨h, hs, h1⟩ := h
    refine run_storeAt_mid w b o ty cs ?_ (by rw [hi, hs]) h1
    intro j hj
    rw [cell_row, frozen_row]
    cases e : w.heap[b]? with
    | none => rw [e] at h; cases h
    | some x =>
      rw [e] at h
      cases x with
      | cells c t f =>
        simp [rowHas] at h
        obtain ⟨h, rfl⟩ := h
        have := h.out
        rw [rowFrozen_some, rowCell_some]
        simp; omega
      | _ => simp [rowHas] at h
  · rfl

/-- A load, a store, of a type of so many cells, as the walk meets it. -/
def loadW (P : Program) (ty : TypeId) (n : Nat) (x : Value) (w : World) : Result Value := (Instr.loadAt ty x).run P w
def storeW (P : Program) (ty : TypeId) (n : Nat) (x y : Value) (w : World) : Result Unit := (Instr.storeAt ty x y).run P w
/-- The same as operations: opened by no rule but these. -/
def loadS (ty : TypeId) (n : Nat) (x : Value) : Sem Value := Instr.loadAt ty x
def storeS (ty : TypeId) (n : Nat) (x y : Value) : Sem Unit := Instr.storeAt ty x y
theorem run_loadS (P : Program) (ty : TypeId) (n : Nat) (x : Value) (w : World) : (loadS ty n x).run P w = loadW P ty n x w := rfl
theorem run_storeS (P : Program) (ty : TypeId) (n : Nat) (x y : Value) (w : World) : (storeS ty n x y).run P w = storeW P ty n x y w := rfl
theorem loadW_at {P : Program} {ty : TypeId} {n : Nat} (hW : Wide P ty n) (w : World) (b o : Nat) : loadW P ty n (.pointer (some ⟨b, o, none⟩)) w =
    if rowIn (w.heap[b]?) o n = true then .ok (.agg (rowPart (w.heap[b]?) o n)) w else loadElse P ty b o w := load_wide hW w b o
open Classical in
theorem storeW_at {P : Program} {ty : TypeId} {n : Nat} (hW : Wide P ty n) (w : World) (b o : Nat) (cs : Array Value) : storeW P ty n (.pointer (some ⟨b, o, none⟩)) (.agg cs) w =
    if rowHas (w.heap[b]?) o n = true ∧ cs.size = n ∧ allOne cs then .ok () (putRow w b o cs) else storeElse P ty b o cs w := store_wide hW.2 w b o cs

/-! ### Numbers in a block: its first cells are these, others may follow -/
/-- The cells of so many numbers. -/
def vs (xs : List Int) : Array Value := (xs.map (Value.int .u64)).toArray
theorem vs_size (xs : List Int) : (vs xs).size = xs.length := by simp [vs]
theorem vs_get (xs : List Int) (i : Nat) : (vs xs)[i]? = (xs[i]?).map (Value.int .u64) := by simp [vs]
theorem vs_set (xs : List Int) (i : Nat) (v : Int) : (vs xs).setIfInBounds i (.int .u64 v) = vs (xs.set i v) := by simp [vs, List.map_set]
theorem vs_one (xs : List Int) : allOne (vs xs) := by simp [allOne, vs, Value.oneCell']
/-- A block's cells: numbers, then others. -/
def bk (xs : List Int) (r : List Value) : Array Value := (xs.map (Value.int .u64) ++ r).toArray
theorem bk_vs (xs : List Int) : vs xs = bk xs [] := by simp [vs, bk]
/-- Line i. -/
def ln (xs : List Int) (i : Nat) : List Int := (xs.drop (i * 8)).take 8
theorem ln_length (xs : List Int) (i : Nat) (h : Fit (i * 8) 8 xs.length) : (ln xs i).length = 8 := by have := h.out; simp [ln]; omega
/-- The lines with line i made l. -/
def lnPut (xs : List Int) (i : Nat) (l : List Int) : List Int := splice xs (i * 8) l
theorem lnPut_length (xs : List Int) (i : Nat) (l : List Int) (h : Fit (i * 8) 8 xs.length) (hl : l.length = 8) : (lnPut xs i l).length = xs.length := by
  have := h.out; unfold lnPut; rw [length_splice _ _ _ (by omega)]
theorem splice_append {α : Type} (xs r : List α) (o : Nat) (v : List α) (h : o + v.length ≤ xs.length) : splice (xs ++ r) o v = splice xs o v ++ r := by
  unfold splice
  rw [List.take_append_of_le_length (by omega), List.drop_append_of_le_length (by omega)]
  simp
/-! ### What a call leaves as it was: all blocks but these -/
structure Chg (l : List Nat) (w w' : World) : Prop where
  os : w'.os = w.os
  tape : w'.tape = w.tape
  output : w'.output = w.output
  size : w.heap.size ≤ w'.heap.size
  block : ∀ k, k < w.heap.size → k ∉ l → w'.heap[k]? = w.heap[k]?
theorem Chg.refl (l : List Nat) (w : World) : Chg l w w := ⟨rfl, rfl, rfl, Nat.le_refl _, fun _ _ _ => rfl⟩
theorem Chg.trans {l : List Nat} {a b c : World} (h : Chg l a b) (k : Chg l b c) : Chg l a c :=
  ⟨k.os.trans h.os, k.tape.trans h.tape, k.output.trans h.output, Nat.le_trans h.size k.size, fun i hi hn => (k.block i (Nat.lt_of_lt_of_le hi h.size) hn).trans (h.block i hi hn)⟩
/-- Later changes of blocks that are new to the first world. -/
theorem Chg.trans' {l l' : List Nat} {a b c : World} (h : Chg l a b) (k : Chg l' b c) (hl : ∀ x ∈ l', x ∈ l ∨ a.heap.size ≤ x) : Chg l a c :=
  ⟨k.os.trans h.os, k.tape.trans h.tape, k.output.trans h.output, Nat.le_trans h.size k.size, fun i hi hn => (k.block i (Nat.lt_of_lt_of_le hi h.size) (fun hm => by
    rcases hl i hm with h1 | h1
    · exact hn h1
    · omega)).trans (h.block i hi hn)⟩
theorem Chg.mono {l l' : List Nat} {a b : World} (h : Chg l a b) (hl : ∀ x ∈ l, x ∈ l' ∨ a.heap.size ≤ x) : Chg l' a b := (Chg.refl l' a).trans' h hl
theorem Chg.keep {l : List Nat} {w w' : World} (h : Chg l w w') {k : Nat} {x : Obj} (hk : w.heap[k]? = some x) (hn : k ∉ l) : w'.heap[k]? = some x := by
  rw [h.block k (Array.getElem?_eq_some_iff.1 hk).1 hn, hk]
theorem Chg.drew {l : List Nat} {a w : World} (h : Chg l a w) : Chg l a w.drew := ⟨h.os, h.tape, h.output, h.size, h.block⟩
theorem Chg.drewN {l : List Nat} {a w : World} (h : Chg l a w) (n : Nat) : Chg l a (w.drewN n) := ⟨h.os, h.tape, h.output, h.size, h.block⟩
theorem Chg.alloc {l : List Nat} {a w : World} (h : Chg l a w) (o : Obj) : Chg l a (w.alloc o) :=
  ⟨h.os, h.tape, h.output, by have := h.size; simp; omega, fun k hk hn => (Below.heap_alloc w o k (Nat.lt_of_lt_of_le hk h.size)).trans (h.block k hk hn)⟩
theorem Chg.setCell {l : List Nat} {a w : World} (h : Chg l a w) (b o : Nat) (v : Value) (hb : b ∈ l ∨ a.heap.size ≤ b) : Chg l a (w.setCell ⟨b, o, none⟩ v) :=
  ⟨h.os, h.tape, h.output, by simpa using h.size, fun k hk hn => (Below.heap_setCell w ⟨b, o, none⟩ v k (by
    rintro rfl
    rcases hb with h1 | h1
    · exact hn h1
    · omega)).trans (h.block k hk hn)⟩
theorem Chg.setCells {l : List Nat} {a : World} (b : Nat) (hb : b ∈ l ∨ a.heap.size ≤ b) : ∀ (vs : List Value) (o : Nat) (w : World), Chg l a w → Chg l a (w.setCells b o vs)
  | [], _, _, h => h
  | v :: vs, o, w, h => Chg.setCells b hb vs (o + 1) _ (h.setCell b o v hb)
theorem Chg.putRow {l : List Nat} {a w : World} (h : Chg l a w) (b o : Nat) (cs : Array Value) (hb : b ∈ l ∨ a.heap.size ≤ b) : Chg l a (putRow w b o cs) := Chg.setCells b hb _ _ _ h
theorem lt_heap {w : World} {b : Nat} {x : Obj} (h : w.heap[b]? = some x) : b < w.heap.size := (Array.getElem?_eq_some_iff.1 h).1
/-- A block that is there. -/
def Old (w : World) (b : Nat) : Prop := b < w.heap.size
theorem old {w : World} {b : Nat} {x : Obj} (h : w.heap[b]? = some x) : Old w b := lt_heap h
theorem Old.lt {w : World} {b : Nat} (h : Old w b) : b < w.heap.size := h
theorem Old.chg {w w' : World} {b : Nat} {l : List Nat} (h : Old w b) (hc : Chg l w w') : Old w' b := Nat.lt_of_lt_of_le h hc.size
theorem ne_size1 {w : World} {k : Nat} (h : Old w k) : (w.heap.size = k) = False := by have := h.lt; simp; omega
theorem ne_size2 {w : World} {k : Nat} (h : Old w k) : (k = w.heap.size) = False := by have := h.lt; simp; omega
theorem ne_size3 {w : World} {k m : Nat} (h : Old w k) : (w.heap.size + m = k) = False := by have := h.lt; simp; omega
theorem ne_size4 {w : World} {k m : Nat} (h : Old w k) : (k = w.heap.size + m) = False := by have := h.lt; simp; omega
theorem Below.chg {B : Nat} {w w' : World} (h : Below B w w') (hB : w.heap.size ≤ B) : Chg [] w w' := ⟨h.os, h.tape, h.output, h.size, fun k hk _ => h.block k (by omega)⟩
theorem Chg.below {l : List Nat} {B : Nat} {w w' : World} (h : Chg l w w') (hB : B ≤ w.heap.size) (hl : ∀ x ∈ l, B ≤ x) : Below B w w' :=
  ⟨h.os, h.tape, h.output, h.size, fun k hk => h.block k (by omega) (fun hm => by have := hl k hm; omega)⟩

/-! ### Builtins, closed to the walk but for the laws that are laid -/
def appS (t ty : TypeId) (args : Array Value) : Sem Value := Builtin.append_ #[t, t] ty args
def appR (P : Program) (t ty : TypeId) (args : Array Value) (w : World) : Result Value := (Builtin.append_ #[t, t] ty args).run P w
theorem append_appS (t ty : TypeId) (args : Array Value) : Builtin.append_ #[t, t] ty args = appS t ty args := rfl
theorem run_appS (P : Program) (t ty : TypeId) (args : Array Value) (w : World) : (appS t ty args).run P w = appR P t ty args w := rfl
def copS (t u ty : TypeId) (args : Array Value) : Sem Value := Builtin.copy_ #[t, u] ty args
def copR (P : Program) (t u ty : TypeId) (args : Array Value) (w : World) : Result Value := (Builtin.copy_ #[t, u] ty args).run P w
theorem copy_copS (t u ty : TypeId) (args : Array Value) : Builtin.copy_ #[t, u] ty args = copS t u ty args := rfl
theorem run_copS (P : Program) (t u ty : TypeId) (args : Array Value) (w : World) : (copS t u ty args).run P w = copR P t u ty args w := rfl
def clrS (t ty : TypeId) (args : Array Value) : Sem Value := Builtin.clear_ #[t] ty args
def clrR (P : Program) (t ty : TypeId) (args : Array Value) (w : World) : Result Value := (Builtin.clear_ #[t] ty args).run P w
theorem clear_clrS (t ty : TypeId) (args : Array Value) : Builtin.clear_ #[t] ty args = clrS t ty args := rfl
theorem run_clrS (P : Program) (t ty : TypeId) (args : Array Value) (w : World) : (clrS t ty args).run P w = clrR P t ty args w := rfl
def mkS (t : TypeId) (l c : Value) : Sem Value := Instr.makeSlice t l c
def mkR (P : Program) (t : TypeId) (l c : Value) (w : World) : Result Value := (Instr.makeSlice t l c).run P w
theorem make_mkS (t : TypeId) (l c : Value) : Instr.makeSlice t l c = mkS t l c := rfl
theorem run_mkS (P : Program) (t : TypeId) (l c : Value) (w : World) : (mkS t l c).run P w = mkR P t l c w := rfl
/-! ### Slices that are read; clone, copy, clear, make -/
/-- The cells of a slice of n elements of so many cells each. -/
def Sl (w : World) (size : Nat) (A : Option Addr) (n : Nat) (xs : List Value) : Prop :=
  xs.length = n * size ∧ (n = 0 ∨ ∃ b o c t f, A = some ⟨b, o, none⟩ ∧ w.heap[b]? = some (.cells c t f) ∧ (c.toList.drop o).take (n * size) = xs)
theorem Sl.chg {w w' : World} {size : Nat} {A : Option Addr} {n : Nat} {xs : List Value} {l : List Nat} (h : Sl w size A n xs) (hc : Chg l w w') (hA : ∀ a, A = some a → a.block ∉ l) : Sl w' size A n xs := by
  obtain ⟨h1, h2⟩ := h
  refine ⟨h1, h2.imp id ?_⟩
  rintro ⟨b, o, c, t, f, rfl, hb, hx⟩
  exact ⟨b, o, c, t, f, rfl, hc.keep hb (hA _ rfl), hx⟩
theorem Sl.cells {w : World} {size : Nat} {b o : Nat} {n : Nat} {xs : List Value} (h : Sl w size (some ⟨b, o, none⟩) n xs) : ∀ j v, xs[j]? = some v → w.cell? ((⟨b, o, none⟩ : Addr).add j) = some v := by
  intro j v hv
  obtain ⟨h1, h2⟩ := h
  rcases h2 with rfl | ⟨b', o', c, t, f, he, hb, hx⟩
  · simp at h1; subst h1; simp at hv
  · injection he with he; injection he with h3 h4; subst h3; subst h4
    rw [Addr.add_mid, cell_row, hb, rowCell_some]
    rw [← hx] at hv
    have hj := (List.getElem?_eq_some_iff.1 hv).1
    simp at hj
    rw [List.getElem?_take_of_lt (by omega), List.getElem?_drop] at hv
    simpa using hv
theorem Sl.addr {w : World} {size : Nat} {A : Option Addr} {n : Nat} {xs : List Value} (h : Sl w size A n xs) (h0 : 0 < n) : ∃ b o, A = some ⟨b, o, none⟩ := by
  rcases h.2 with h2 | ⟨b, o, c, t, f, he, _⟩
  · omega
  · exact ⟨b, o, he⟩
theorem Sl.of_bk {w : World} {b : Nat} {ty : TypeId} {f : Nat × Nat} {xs : List Int} {r : List Value} {n : Nat} (hb : w.heap[b]? = some (.cells (bk xs r) ty f)) (hl : xs.length = n * 8) : Sl w 8 (some ⟨b, 0, none⟩) n (xs.map (Value.int .u64)) :=
  ⟨by simpa using hl, .inr ⟨b, 0, _, ty, f, rfl, hb, by rw [List.drop_zero]; unfold bk; rw [List.toList_toArray, List.take_append_of_le_length (by simp; omega), List.take_of_length_le (by simp; omega)]⟩⟩

section
variable {P : Program} {t ty e : TypeId} {i : TypeInfo} {z : Value}
theorem run_firstCells_sl (w : World) (size n : Nat) (A : Option Addr) (m c : Nat) (xs : List Value) (h : Sl w size A n xs) : (Builtin.firstCells size n (.slice A m c)).run P w = .ok xs.toArray w := by
  rcases Nat.eq_zero_or_pos n with h0 | h0
  · subst h0
    have : xs = [] := List.eq_nil_of_length_eq_zero (by simpa using h.1)
    subst this
    cases A with
    | none => rfl
    | some a => simp [Builtin.firstCells, loadCells, loadCellsFrom]
  · obtain ⟨b, o, rfl⟩ := h.addr h0
    exact run_firstCells_some (P := P) w size n ⟨b, o, none⟩ m c xs h.1 h.cells
/-- 'append([]T{}, x...)' where x has an element. -/
theorem run_clone (ht : P.underlying t = some (.slice e)) (hi : P.info? e = some i) (hz : i.zero = some z) (w : World) (e0 : Addr) (A : Option Addr) (n c : Nat) (xs : List Value) (h : Sl w i.size A n xs) (h0 : 0 < n) (h63 : n ≤ maxLen) (hb : n * i.bytes ≤ 140737488355328) :
    appR P t ty #[.slice (some e0) 0 0, .slice A n c] w =
      .ok (.slice (some ⟨w.heap.size, 0, none⟩) n (grownCap w n 0 e)) (w.drew.alloc (.cells (xs ++ (Builtin.zeroCells z.cells (grownCap w n 0 e - n)).toList).toArray e)) := by
  obtain ⟨b, o, rfl⟩ := h.addr h0
  have := run_append_grow (P := P) w t ty e i z ht hi hz e0 0 0 [] (by simp) (by simp) ⟨b, o, none⟩ n c xs h.1 h.cells (by omega) (by simp only [maxLen] at h63; omega) (growslice_fits (by omega) (by rw [Nat.zero_add]; omega))
  simp only [Nat.zero_add] at this
  unfold appR
  rw [this]
  congr 3
  simp
end
/-- Numbers 0. -/
theorem zeros_made (n : Nat) : Builtin.zeroCells (vs [0, 0, 0, 0, 0, 0, 0, 0]) n = vs (List.replicate (n * 8) 0) := by
  apply Array.ext
  · simp [Builtin.zeroCells, vs]
  · intro k h1 h2
    have hk : k < n * 8 := by simpa [vs] using h2
    have h8 : k % 8 = 0 ∨ k % 8 = 1 ∨ k % 8 = 2 ∨ k % 8 = 3 ∨ k % 8 = 4 ∨ k % 8 = 5 ∨ k % 8 = 6 ∨ k % 8 = 7 := by omega
    have hr : (vs (List.replicate (n * 8) 0))[k] = .int .u64 0 := by simp [vs]
    rw [hr]
    simp only [Builtin.zeroCells, Array.getElem_map, Array.getElem_range]
    have e8 : (vs [0, 0, 0, 0, 0, 0, 0, 0]).size = 8 := rfl
    rw [e8]
    rcases h8 with h | h | h | h | h | h | h | h <;> rw [h] <;> rfl
theorem made_made (n : Nat) : madeCells (vs [0, 0, 0, 0, 0, 0, 0, 0]) (n * 8) = bk (List.replicate (n * 8) 0) [] := by
  rw [← bk_vs, ← zeros_made]; rfl
theorem lit8 (a0 a1 a2 a3 a4 a5 a6 a7 : Int) : (#[.int .u64 a0, .int .u64 a1, .int .u64 a2, .int .u64 a3, .int .u64 a4, .int .u64 a5, .int .u64 a6, .int .u64 a7] : Array Value) = vs [a0, a1, a2, a3, a4, a5, a6, a7] := rfl
/-- Element i of a slice. -/
theorem Sl.part {w : World} {size b o n : Nat} {xs : List Value} (h0 : 0 < size) (h : Sl w size (some ⟨b, o, none⟩) n xs) {i : Nat} (hi : i < n) :
    ∃ c t f, w.heap[b]? = some (.cells c t f) ∧ rowIn (some (.cells c t f)) (o + i * size) size = true ∧ rowPart (some (.cells c t f)) (o + i * size) size = ((xs.drop (i * size)).take size).toArray := by
  obtain ⟨h1, h2⟩ := h
  rcases h2 with h2 | ⟨b', o', c, t, f, he, hb, hx⟩
  · omega
  · injection he with he; injection he with h3 h4; subst h3; subst h4
    have hle : (i + 1) * size ≤ n * size := Nat.mul_le_mul_right _ (by omega)
    rw [Nat.add_mul] at hle
    have hlen := congrArg List.length hx
    simp only [List.length_take, List.length_drop, Array.length_toList] at hlen
    refine ⟨c, t, f, hb, ?_, ?_⟩
    · rw [rowIn_some]
      exact decide_eq_true (show o + i * size + size ≤ c.size by omega)
    · rw [rowPart_some, ← hx, List.drop_take, List.take_take, List.drop_drop, Nat.min_eq_left (by omega)]
/-- Line i of a slice of lines. -/
theorem Sl.line {w : World} {b o n : Nat} {xs : List Int} (h : Sl w 8 (some ⟨b, o, none⟩) n (xs.map (Value.int .u64))) {i : Nat} (hi : i < n) :
    ∃ c t f, w.heap[b]? = some (.cells c t f) ∧ rowIn (some (.cells c t f)) (o + i * 8) 8 = true ∧ rowPart (some (.cells c t f)) (o + i * 8) 8 = vs (ln xs i) ∧ (ln xs i).length = 8 := by
  obtain ⟨h1, h2⟩ := h
  rcases h2 with h2 | ⟨b', o', c, t, f, he, hb, hx⟩
  · omega
  · injection he with he; injection he with h3 h4; subst h3; subst h4
    have hl : xs.length = n * 8 := by simpa using h1
    have hlen := congrArg List.length hx
    simp only [List.length_take, List.length_drop, List.length_map, Array.length_toList] at hlen
    refine ⟨c, t, f, hb, ?_, ?_, ?_⟩
    · rw [rowIn_some]; exact decide_eq_true (show o + i * 8 + 8 ≤ c.size by omega)
    · rw [rowPart_some]
      unfold vs ln
      rw [List.map_take, List.map_drop, ← hx]
      rw [List.drop_take, List.take_take, List.drop_drop, Nat.min_eq_left (by omega)]
    · simp [ln]; omega
/-- The first lines forget. -/
def forget (xs : List Int) (v : Nat) : List Int := splice xs 0 (List.replicate (v * 8) 0)
theorem forget_length (xs : List Int) (v : Nat) (h : v * 8 ≤ xs.length) : (forget xs v).length = xs.length := by unfold forget; rw [length_splice]; simpa using h
theorem drop_take_splice {α : Type} (xs l : List α) (o p n : Nat) (h : p + n ≤ o) (ho : o ≤ xs.length) : ((splice xs o l).drop p).take n = (xs.drop p).take n := by
  unfold splice
  rw [List.append_assoc, List.drop_append_of_le_length (by simp; omega), List.take_append_of_le_length (by simp; omega), List.drop_take, List.take_take, Nat.min_eq_left (by omega)]
theorem drop_splice_past {α : Type} (xs l : List α) (o p : Nat) (h : o + l.length ≤ p) (ho : o + l.length ≤ xs.length) : (splice xs o l).drop p = xs.drop p := by
  unfold splice
  have e1 : (xs.take o ++ l).length = o + l.length := by simp; omega
  rw [List.drop_append, List.drop_eq_nil_of_le (by omega), List.nil_append, List.drop_drop, e1]
  congr 1; omega
theorem drop_splice_at {α : Type} (xs l : List α) (o : Nat) (ho : o + l.length ≤ xs.length) : ((splice xs o l).drop o).take l.length = l := by
  unfold splice
  rw [List.append_assoc, List.drop_append_of_le_length (by simp; omega), List.drop_eq_nil_of_le (by simp; omega), List.nil_append, List.take_append_of_le_length (Nat.le_refl _), List.take_of_length_le (Nat.le_refl _)]
theorem ln_put_same (xs l : List Int) (i : Nat) (h : Fit (i * 8) 8 xs.length) (hl : l.length = 8) : ln (lnPut xs i l) i = l := by
  have := h.out
  unfold ln lnPut
  rw [← hl]
  have e := drop_splice_at xs l (i * 8) (by omega)
  rw [hl] at e ⊢
  exact e
theorem ln_put_other (xs l : List Int) (i j : Nat) (h : Fit (i * 8) 8 xs.length) (hl : l.length = 8) (hij : i ≠ j) : ln (lnPut xs i l) j = ln xs j := by
  have := h.out
  unfold ln lnPut
  rcases Nat.lt_or_gt_of_ne hij with h1 | h1
  · rw [drop_splice_past _ _ _ _ (by omega) (by omega)]
  · exact drop_take_splice _ _ _ _ _ (by omega) (by omega)
end Go.Proofs.YtcjoinhngdfdmaaGreatDoor
end
section
namespace Go.Proofs.YtcjoinhngdfdmaaGreatDoor
open Go.ChangeShapes Go.WideShapes Go.ChangeAt Go.RowKit
set_option linter.unusedVariables false

section
variable {H : Type} {enc : TypeId × Value → H} {P : Program}
/-- THE ROW's STEP FOR A LAW THAT LISTS VARIABLES. -/
theorem law_ret_laid {C : Checked} {os : Os} {f : FuncId} {fn : Func} {s : ChangeSpec} {tb : TypeId} {laid : List (String × DataW Unit)}
    (own : ownKnob C.prog.godebug = none) (started : os.Started) (noInit : C.prog.inits.idxOf? f = none) (hfn : C.prog.funcs[f]? = some fn)
    (witness : ∃ (w : World) (tape : Tape) (i : Input), w.os = os ∧ (w.forCall tape i).Shaped C.prog ∧ i.vars = [] ∧ Input.okWide C.prog (w.forCall tape i) .any w.heap.size f i ∧
      ((s.pre enc C.prog fn [] false (w.forCall tape i).memory i.args ∧ laidMetH C.prog laid (w.forCall tape i).memory) ∧ sizedMet enc C.prog fn (OpenSpec.ofChange s) false (w.forCall tape i).memory i.args) ∧ ({} : Assume).holds C.prog (lone (Frame.enter C.prog f i.args .normal) [] (w.forCall tape i)))
    (hsv : s.vars = []) (hs : ∀ ds : List (DataW H), ds.length = fn.params.toList.length → s.fn H ds = { results := [.lit (.bool true)], args := ds })
    (hl : laidOutB C.prog = true) (hps : fn.params.toList.all (fun t => C.prog.readableRec t && decide (t < C.prog.types.size)) = true)
    (hr : fn.resultTypes = #[tb]) (htb : C.prog.underlying tb = some .bool)
    (walk : ∀ (W : World) (base : Nat) (args : Array Value) (ds : List (DataW H)) (ps : List MemPlace),
      (∀ (j : Nat) t v, fn.params[j]? = some t → args[j]? = some v → Value.okWide C.prog W .any base t v) →
      DataW.TrodAll enc C.prog W 0 (fun _ => true) true fn.params.toList args.toList ds ps → (∀ x ∈ ps, x.block < W.heap.size) → W.noneFrozen ps →
      (DataW.weightsEach C.prog fn.params.toList ds).all (· ≤ reachBytes) = true → laidMetH C.prog laid W →
      Calls C.prog f args W fun e W' => e = .returned (.bool true) ∧ Below W.heap.size W W') :
    ReturnsInHanded {} C os f .any (fun w args => (s.pre enc C.prog fn [] false w args ∧ laidMetH C.prog laid w) ∧ sizedMet enc C.prog fn (OpenSpec.ofChange s) false w args) (s.post enc C.prog fn false true false false) := by
  refine returnsInHanded_of_change_and (C := C) (X := fun w _ => laidMetH C.prog laid w) (fun _ _ _ hh h => h.of_heap hh) own started noInit hfn witness ?_
  intro W base args ds gs before hval hw' _ hsz hL _
  have hlt : ∀ x ∈ before, x.block < W.heap.size := fun x hx => hw'.lt x hx
  have hW := hw'
  obtain ⟨p, q, hA, hV, rfl, hfz, hnd⟩ := hw'
  rw [hsv] at hV
  obtain ⟨rfl, rfl⟩ := trodVars_none hV
  simp only [List.append_nil] at hlt hfz hW
  have hsz' : (DataW.weightsEach C.prog fn.params.toList ds).all (· ≤ reachBytes) = true := by
    have e2 : s.plain.varTypes C.prog = [] := by simp [DataSpec.varTypes, ChangeSpec.plain, hsv]
    have hz3 : (DataW.weightsEach C.prog (fn.params.toList ++ s.plain.varTypes C.prog) (ds ++ [])).all (· ≤ reachBytes) = true := hsz
    rw [e2, List.append_nil, List.append_nil] at hz3
    exact hz3
  refine (walk W base args ds p hval hA hlt hfz hsz' hL).mono fun e W' ⟨he, hb⟩ => ?_
  subst he
  have hlen := trodAll_lengths hA
  refine ⟨_, rfl, ds, [], p, [], p, [], hW, ?_, ?_, ?_, ?_, ?_⟩
  · rw [List.append_nil, hs ds hlen, hr]
    exact trodAll_mk1 (shut_bool htb _)
  · rw [List.append_nil, hs ds hlen]
    refine trodAll_stay hl hb (fun t ht => ?_) hA hlt
    have := List.all_eq_true.1 hps t ht
    simpa using this
  · rw [hsv, List.append_nil, hs ds hlen]
    rfl
  · exact World.keptBut_mono (fun x hx => ⟨hx, .inr (.inl hx)⟩) (hb.frame (· ∈ p))
  · intro h; cases h

/-! ### A variable of integers and bools is just its cells -/
mutual
def flat : DataW H → List Value
  | .lit (.int k n) => [.int k n]
  | .lit (.bool b) => [.bool b]
  | .agg ps => flatAll ps
  | _ => []
def flatAll : List (DataW H) → List Value
  | [] => []
  | d :: r => flat d ++ flatAll r
end
def plainFields (P : Program) (K : TypeId → Bool) : List Field → Nat → Nat → Bool
  | [], off, n => off == n
  | f :: fs, off, n => K f.type && f.offset == off && plainFields P K fs (off + P.cellsOf f.type) n
def plainTy (P : Program) : Nat → TypeId → Bool
  | 0, _ => false
  | d + 1, t => match P.underlying t with
    | some (.int _) => true
    | some .bool => true
    | some (.array n e) => plainTy P d e && P.cellsOf t == n * P.cellsOf e
    | some (.struct fs) => plainFields P (plainTy P d) fs.toList 0 (P.cellsOf t)
    | _ => false
variable {w : World} {base : Nat} {sp : Nat → Bool} {held : Bool}
theorem flat_rows {c : Nat} : ∀ (n : Nat) (cs : List Value) (xs : List (DataW H × List MemPlace)), cs.length = n * c → xs.length = n → (∀ (i : Nat) x, xs[i]? = some x → (cs.drop (i * c)).take c = flat x.1) → cs = flatAll (xs.map (·.1))
  | 0, cs, xs, hl, hx, _ => by
    obtain rfl : xs = [] := List.eq_nil_of_length_eq_zero hx
    obtain rfl : cs = [] := List.eq_nil_of_length_eq_zero (by simpa using hl)
    simp [flatAll]
  | n + 1, cs, [], hl, hx, _ => by simp at hx
  | n + 1, cs, x :: xs, hl, hx, h => by
    have h0 := h 0 x rfl
    simp only [Nat.zero_mul, List.drop_zero] at h0
    have ih := flat_rows (c := c) n (cs.drop c) xs (by rw [List.length_drop, hl, Nat.add_mul]; omega) (by simpa using hx) (fun i y hy => by
      rw [List.drop_drop, show c + i * c = (i + 1) * c by rw [Nat.add_mul]; omega]
      exact h (i + 1) y (by simpa using hy))
    rw [List.map_cons, flatAll, ← h0, ← ih, List.take_append_drop]
theorem flat_fields {K : TypeId → Bool} {m : Nat} (ih : ∀ (t : TypeId), K t = true → ∀ (cs : List Value) (x : DataW H × List MemPlace), DataW.trod enc P w base sp held m t cs = some x → cs = flat x.1) :
    ∀ (fs : List Field) (off : Nat) (cs : List Value) (xs : List (DataW H × List MemPlace)), plainFields P K fs off cs.length = true → xs.length = fs.length → (∀ (i : Nat) (f : Field), fs[i]? = some f → DataW.trod enc P w base sp held m f.type ((cs.drop f.offset).take (P.cellsOf f.type)) = xs[i]?) → cs.drop off = flatAll (xs.map (·.1))
  | [], off, cs, xs, hk, hx, _ => by
    obtain rfl : xs = [] := List.eq_nil_of_length_eq_zero hx
    simp only [plainFields, beq_iff_eq] at hk
    simp [flatAll, hk]
  | f :: fs, off, cs, [], hk, hx, _ => by simp at hx
  | f :: fs, off, cs, x :: xs, hk, hx, h => by
    simp only [plainFields, Bool.and_eq_true, beq_iff_eq] at hk
    obtain ⟨⟨h1, h2⟩, h3⟩ := hk
    have h0 := h 0 f rfl
    rw [h2] at h0
    have e0 := ih _ h1 _ _ h0
    have e1 := flat_fields ih fs (off + P.cellsOf f.type) cs xs h3 (by simpa using hx) (fun i g hg => by
      have := h (i + 1) g (by simpa using hg)
      simpa using this)
    rw [List.map_cons, flatAll, ← e0, ← e1, ← List.drop_drop, List.take_append_drop]
theorem trod_flat : ∀ (d : Nat) (t : TypeId), plainTy P d t = true → ∀ (m : Nat) (cs : List Value) (x : DataW H × List MemPlace), DataW.trod enc P w base sp held m t cs = some x → cs = flat x.1
  | 0, t, hk, _, _, _, _ => by simp [plainTy] at hk
  | d + 1, t, hk, m, cs, x, hx => by
    simp only [plainTy] at hk
    split at hk
    · rename_i k hu
      obtain ⟨n, rfl, rfl, hw⟩ := DataW.trod_int hu hx
      simp [flat]
    · rename_i hu
      obtain ⟨b, rfl, rfl⟩ := DataW.trod_bool hu hx
      simp [flat]
    · rename_i n e hu
      simp only [Bool.and_eq_true, beq_iff_eq] at hk
      obtain ⟨xs, q, _, rfl, hl, hxl, hel⟩ := DataW.trod_array hu hx
      rw [flat]
      exact flat_rows n cs xs (by rw [hl, hk.2]) hxl (fun i y hy => by
        have hi : i < n := by rw [← hxl]; exact (List.getElem?_eq_some_iff.1 hy).1
        have := hel i hi
        rw [hy] at this
        exact trod_flat d e hk.1 _ _ _ this)
    · rename_i fs hu
      obtain ⟨xs, q, _, rfl, hl, hxl, hel⟩ := DataW.trod_struct hu hx
      rw [flat]
      have := flat_fields (K := plainTy P d) (m := q) (fun t hk cs x hx => trod_flat d t hk q cs x hx) fs.toList 0 cs xs (by rw [hl]; exact hk) (by simpa using hxl) (fun i f hf => hel i f (by simpa using hf))
      rwa [List.drop_zero] at this
    · cases hk
end
/-- What a list of one variable gives: its block. -/
theorem block_of_laid {P : Program} {W : World} {name : String} {d : DataW Unit} {g : Nat} {t : TypeId} {n : Nat}
    (hg : P.globalNamed name = some g) (hty : (P.globals[g]?).map (·.type) = some t) (hp : plainTy P n t = true) (hpl : ([(name, d)].all fun x => x.2.handleName?.isNone) = true) (h : laidMetH P [(name, d)] W) : ∃ ty f, W.heap[g]? = some (.cells (flat d).toArray ty f) := by
  rw [MakeChecks.laidMetH_plain _ _ _ hpl] at h
  obtain ⟨ps, ⟨g', t', cs, fuel, p, q, hg', ht', hvar, hd, _, _⟩, _⟩ := h
  obtain rfl := Option.some.inj (hg.symm.trans hg')
  obtain rfl := Option.some.inj (hty.symm.trans ht')
  have e := trod_flat n t hp _ _ _ hd
  unfold World.var? at hvar
  rw [hg] at hvar
  simp only [Option.bind_some] at hvar
  split at hvar
  · rename_i c ty f hh
    injection hvar with hvar
    subst hvar
    refine ⟨ty, f, ?_⟩
    rw [hh, ← show c.toList = flat d from e]
  · cases hvar
end Go.Proofs.YtcjoinhngdfdmaaGreatDoor
end
section
namespace Go.Proofs.YtcjoinhngdfdmaaGreatDoor
open Go.ChangeShapes Go.WideShapes Go.ChangeAt Go.RowKit

section
variable {H : Type} {enc : TypeId × Value → H} {P : Program} {w : World} {base base' : Nat} {spare : Nat → Bool} {held : Bool}

theorem ints_of_cells {k : IntKind} : ∀ (cs : List Value), (∀ i, i < cs.length → ∃ m, cs[i]? = some (.int k m) ∧ (Lit.int k m).wf = true) → ∃ ns : List Int, cs = ns.map (Value.int k) ∧ ∀ x ∈ ns, (Lit.int k x).wf = true
  | [], _ => ⟨[], rfl, by simp⟩
  | c :: cs, h => by
    obtain ⟨m, h0, hw⟩ := h 0 (by simp)
    obtain ⟨ns, e, hn⟩ := ints_of_cells cs (fun i hi => by have := h (i + 1) (by simpa using hi); simpa using this)
    simp at h0
    subst h0; subst e
    exact ⟨m :: ns, rfl, by simpa [hw] using hn⟩

end

end Go.Proofs.YtcjoinhngdfdmaaGreatDoor
end
section
namespace Go.Proofs.YtcjoinhngdfdmaaGreatDoor
open Go.ChangeShapes Go.WideShapes Go.ChangeAt Go.RowKit
set_option linter.unusedVariables false

/-- What a cell holds. -/
inductive Kd where
  | int (k : IntKind)
  | bool
  | str
  | slice (e : List Kd)

/-- The fields one behind the other. -/
def kindsFields (P : Program) (K : TypeId → Option (List Kd)) : List Field → Nat → Option (List Kd)
  | [], _ => some []
  | f :: fs, off => match K f.type with
    | some ks => if f.offset = off ∧ P.cellsOf f.type = ks.length then (kindsFields P K fs (off + ks.length)).map (ks ++ ·) else none
    | none => none
/-- The kinds of a type's cells. -/
def kinds (P : Program) : Nat → TypeId → Option (List Kd)
  | 0, _ => none
  | d + 1, t => match P.underlying t with
    | some (.int k) => some [.int k]
    | some .bool => some [.bool]
    | some .string => some [.str]
    | some (.slice e) => match kinds P d e with
      | some ks => if P.cellsOf e = ks.length ∧ 0 < ks.length then some [.slice ks] else none
      | none => none
    | some (.array n e) => match kinds P d e with
      | some ks => if P.cellsOf e = ks.length ∧ P.cellsOf t = n * ks.length then some (List.replicate n ks).flatten else none
      | none => none
    | some (.struct fs) => match kindsFields P (kinds P d) fs.toList 0 with
      | some ks => if P.cellsOf t = ks.length then some ks else none
      | none => none
    | _ => none

/-- A cell of that kind; what a slice of them has, too. -/
def IsKd (w : World) : Kd → Value → Prop
  | .int k, v => ∃ n, v = .int k n ∧ (Lit.int k n).wf = true
  | .bool, v => ∃ b, v = .bool b
  | .str, v => ∃ s, v = .string s ∧ s.size ≤ maxLen
  | .slice ks, v => ∃ A n c xs, v = .slice A n c ∧ n ≤ c ∧ c ≤ maxLen ∧ Sl w ks.length A n xs ∧ (A = none → c = 0) ∧
      ∀ i, i < n → ∀ (j : Nat) (h : j < ks.length), ∃ u, xs[i * ks.length + j]? = some u ∧ IsKd w ks[j] u
  termination_by k _ => SizeOf.sizeOf k
  decreasing_by
    have := List.sizeOf_lt_of_mem (List.getElem_mem h)
    simp only [Kd.slice.sizeOf_spec]
    omega
/-- Cells of these kinds. -/
def AreKd (w : World) (ks : List Kd) (cs : List Value) : Prop := cs.length = ks.length ∧ ∀ (j : Nat) (kd : Kd), ks[j]? = some kd → ∃ v, cs[j]? = some v ∧ IsKd w kd v

theorem AreKd.append {w : World} {ks ks' : List Kd} {cs cs' : List Value} (h : AreKd w ks cs) (h' : AreKd w ks' cs') : AreKd w (ks ++ ks') (cs ++ cs') := by
  refine ⟨by simp [h.1, h'.1], fun j kd hj => ?_⟩
  by_cases hlt : j < ks.length
  · rw [List.getElem?_append_left hlt] at hj
    rw [List.getElem?_append_left (by rw [h.1]; exact hlt)]
    exact h.2 j kd hj
  · rw [List.getElem?_append_right (by omega)] at hj
    rw [List.getElem?_append_right (by rw [h.1]; omega), h.1]
    exact h'.2 _ kd hj

section
variable {H : Type} {enc : TypeId × Value → H} {P : Program} {w : World} {base : Nat} {spare : Nat → Bool} {held : Bool}

theorem trod_bool' {t : TypeId} {m : Nat} {cs : List Value} {x : DataW H × List MemPlace} (hu : P.underlying t = some .bool) (h : DataW.trod enc P w base spare held m t cs = some x) : ∃ b, cs = [.bool b] := by
  cases m with
  | zero => simp [DataW.trod] at h
  | succ m =>
    unfold DataW.trod at h
    rw [hu] at h
    split at h <;> simp_all
theorem trod_str' {t : TypeId} {m : Nat} {cs : List Value} {x : DataW H × List MemPlace} (hu : P.underlying t = some .string) (h : DataW.trod enc P w base spare held m t cs = some x) : ∃ s, cs = [.string s] ∧ s.size ≤ maxLen := by
  cases m with
  | zero => simp [DataW.trod] at h
  | succ m =>
    unfold DataW.trod at h
    rw [hu] at h
    split at h <;> simp_all
theorem cells_at {a : Addr} {n : Nat} {cs : List Value} (h : w.cells? base a n = some cs) : cs.length = n ∧ ∀ i, i < n → w.cell? (a.add i) = cs[i]? :=
  let ⟨_, h1, h2⟩ := World.cells?_some h; ⟨h1, h2⟩

theorem kinds_fields {m : Nat} {K : TypeId → Option (List Kd)}
    (ih : ∀ (t : TypeId) (ks : List Kd), K t = some ks → ∀ (cs : List Value) (x : DataW H × List MemPlace), DataW.trod enc P w base spare held m t cs = some x → AreKd w ks cs) :
    ∀ (fs : List Field) (off : Nat) (ks : List Kd) (cs : List Value), kindsFields P K fs off = some ks → cs.length = off + ks.length →
      (∀ f ∈ fs, ∃ x, DataW.trod enc P w base spare held m f.type ((cs.drop f.offset).take (P.cellsOf f.type)) = some x) → AreKd w ks (cs.drop off)
  | [], off, ks, cs, hk, hl, _ => by
    simp [kindsFields] at hk; subst hk
    exact ⟨by simp at hl ⊢; omega, by simp⟩
  | f :: fs, off, ks, cs, hk, hl, hf => by
    simp only [kindsFields] at hk
    split at hk
    · rename_i k0 hK
      split at hk
      · rename_i hc
        obtain ⟨h1, h2⟩ := hc
        obtain ⟨k1, hk1, rfl⟩ := Option.map_eq_some_iff.1 hk
        obtain ⟨x, hx⟩ := hf f (by simp)
        rw [h1, h2] at hx
        have a1 := ih _ _ hK _ _ hx
        have a2 := kinds_fields ih fs (off + k0.length) k1 cs hk1 (by simp at hl; omega) (fun g hg => hf g (by simp [hg]))
        have e : cs.drop off = (cs.drop off).take k0.length ++ cs.drop (off + k0.length) := by
          rw [← List.drop_drop, List.take_append_drop]
        rw [e]
        exact a1.append a2
      · cases hk
    · cases hk

theorem are_rows {m : Nat} {e : TypeId} {k0 : List Kd} (hce : P.cellsOf e = k0.length)
    (ih : ∀ (cs : List Value) (x : DataW H × List MemPlace), DataW.trod enc P w base spare held m e cs = some x → AreKd w k0 cs) :
    ∀ (n : Nat) (cs : List Value), cs.length = n * k0.length → (∀ i, i < n → ∃ x, DataW.trod enc P w base spare held m e ((cs.drop (i * k0.length)).take k0.length) = some x) → AreKd w (List.replicate n k0).flatten cs
  | 0, cs, hl, _ => by
    have : cs = [] := List.eq_nil_of_length_eq_zero (by simpa using hl)
    subst this; exact ⟨by simp, by simp⟩
  | n + 1, cs, hl, hf => by
    rw [List.replicate_succ, List.flatten_cons]
    have e : cs = cs.take k0.length ++ cs.drop k0.length := (List.take_append_drop _ _).symm
    rw [e]
    obtain ⟨x, hx⟩ := hf 0 (by omega)
    simp only [Nat.zero_mul, List.drop_zero] at hx
    refine (ih _ _ hx).append (are_rows hce ih n _ (by rw [List.length_drop, hl, Nat.add_mul]; omega) fun i hi => ?_)
    obtain ⟨y, hy⟩ := hf (i + 1) (by omega)
    rw [List.drop_drop]
    rw [show k0.length + i * k0.length = (i + 1) * k0.length by rw [Nat.add_mul]; omega]
    exact ⟨y, hy⟩

theorem trod_kinds : ∀ (d : Nat) (t : TypeId) (ks : List Kd), kinds P d t = some ks → ∀ (m : Nat) (cs : List Value) (x : DataW H × List MemPlace), DataW.trod enc P w base spare held m t cs = some x → AreKd w ks cs
  | 0, t, ks, hk, _, _, _, _ => by simp [kinds] at hk
  | d + 1, t, ks, hk, m, cs, x, hx => by
    simp only [kinds] at hk
    split at hk
    · rename_i k hu
      injection hk with hk; subst hk
      obtain ⟨n, rfl, _, hw⟩ := DataW.trod_int hu hx
      refine ⟨rfl, fun j kd hj => ?_⟩
      match j, hj with
      | 0, hj => simp at hj; subst hj; exact ⟨_, rfl, by rw [IsKd]; exact ⟨n, rfl, hw⟩⟩
    · rename_i hu
      injection hk with hk; subst hk
      obtain ⟨b, rfl⟩ := trod_bool' hu hx
      refine ⟨rfl, fun j kd hj => ?_⟩
      match j, hj with
      | 0, hj => simp at hj; subst hj; exact ⟨_, rfl, by rw [IsKd]; exact ⟨b, rfl⟩⟩
    · rename_i hu
      injection hk with hk; subst hk
      obtain ⟨s, rfl, hs⟩ := trod_str' hu hx
      refine ⟨rfl, fun j kd hj => ?_⟩
      match j, hj with
      | 0, hj => simp at hj; subst hj; exact ⟨_, rfl, by rw [IsKd]; exact ⟨s, rfl, hs⟩⟩
    · rename_i e hu
      split at hk
      · rename_i k0 hk0
        split at hk
        · rename_i hc
          obtain ⟨hce, hpos⟩ := hc
          injection hk with hk; subst hk
          have hS : ∃ v, cs = [v] ∧ IsKd w (.slice k0) v := by
            simp only [IsKd]
            rcases DataW.trod_slice hu hx with ⟨rfl, _⟩ | ⟨a, len, cap, elems, rest, n, _, rfl, _, hb, hl, hm, hlen, hel, _, _⟩
            · exact ⟨_, rfl, none, 0, 0, [], rfl, Nat.le_refl _, by simp [maxLen], ⟨by simp, .inl rfl⟩, fun _ => rfl, fun i hi => by omega⟩
            · refine ⟨_, rfl, ?_⟩
              rw [hce] at hel
              have each : ∀ i, i < len → ∃ cs', cs'.length = k0.length ∧ (∀ j, j < k0.length → w.cell? ((a.add (i * k0.length)).add j) = cs'[j]?) ∧ AreKd w k0 cs' := fun i hi => by
                have h1 := hel i hi
                have h2 : i < elems.length := by omega
                rw [List.getElem?_eq_getElem h2, Option.bind_eq_some_iff] at h1
                obtain ⟨cs', h3, h4⟩ := h1
                obtain ⟨h5, h6⟩ := cells_at h3
                exact ⟨cs', h5, h6, trod_kinds d e k0 hk0 n cs' _ h4⟩
              rcases Nat.eq_zero_or_pos len with h0 | h0
              · subst h0
                exact ⟨some a, 0, cap, [], rfl, hl, hm, ⟨by simp, .inl rfl⟩, by simp, fun i hi => by omega⟩
              · -- the block
                obtain ⟨c0, hc0, hcell0, _⟩ := each 0 h0
                have hz := hcell0 0 hpos
                have hlt0 : 0 < c0.length := by omega
                rw [List.getElem?_eq_getElem hlt0] at hz
                have hspot : a.spot = none ∧ ∃ c t f, w.heap[a.block]? = some (.cells c t f) := by
                  have : ((a.add (0 * k0.length)).add 0).block = a.block := by simp [Addr.add]
                  unfold World.cell? at hz
                  split at hz
                  · rename_i c t f hh
                    split at hz
                    · cases hz
                    · rename_i hs
                      refine ⟨?_, c, t, f, ?_⟩
                      · revert hs; simp [Addr.add]
                      · rw [← hh]; simp [Addr.add]
                  · cases hz
                obtain ⟨hsp, c, t', f, hh⟩ := hspot
                obtain ⟨b, o, sp⟩ := a
                simp only at hsp hh
                subst hsp
                have cellat : ∀ i, i < len → ∀ j, j < k0.length → ∃ v, c[o + (i * k0.length + j)]? = some v := fun i hi j hj => by
                  obtain ⟨c1, hc1, hcell1, _⟩ := each i hi
                  have := hcell1 j hj
                  rw [Addr.add_mid, Addr.add_mid, cell_row, hh, rowCell_some, List.getElem?_eq_getElem (by omega)] at this
                  rw [Nat.add_assoc] at this
                  exact ⟨_, this⟩
                have hfit : o + len * k0.length ≤ c.size := by
                  obtain ⟨v, hv⟩ := cellat (len - 1) (by omega) (k0.length - 1) (by omega)
                  have := (Array.getElem?_eq_some_iff.1 hv).1
                  have e1 : (len - 1) * k0.length + k0.length = len * k0.length := by
                    rw [← Nat.succ_mul]; congr 1; omega
                  omega
                refine ⟨some ⟨b, o, none⟩, len, cap, (c.toList.drop o).take (len * k0.length), rfl, hl, hm, ⟨by simp; omega, .inr ⟨b, o, c, t', f, rfl, hh, rfl⟩⟩, by simp, fun i hi j hjlt => ?_⟩
                obtain ⟨c1, hc1, hcell1, hk1⟩ := each i hi
                obtain ⟨v, hv, hkd⟩ := hk1.2 j k0[j] (List.getElem?_eq_getElem hjlt)
                refine ⟨v, ?_, hkd⟩
                have hlt : i * k0.length + j < len * k0.length := by
                  have : (i + 1) * k0.length ≤ len * k0.length := Nat.mul_le_mul_right _ (by omega)
                  rw [Nat.add_mul] at this
                  omega
                rw [List.getElem?_take_of_lt hlt, List.getElem?_drop]
                have h7 := hcell1 j hjlt
                rw [Addr.add_mid, Addr.add_mid, cell_row, hh, rowCell_some, hv] at h7
                rw [← h7, Array.getElem?_toList, Nat.add_assoc]
          obtain ⟨v, rfl, hv⟩ := hS
          refine ⟨rfl, fun j kd hj => ?_⟩
          match j, hj with
          | 0, hj => simp at hj; subst hj; exact ⟨_, rfl, hv⟩
        · cases hk
      · cases hk
    · rename_i n e hu
      split at hk
      · rename_i k0 hk0
        split at hk
        · rename_i hc
          injection hk with hk; subst hk
          obtain ⟨xs, q, _, _, hl, hxl, hel⟩ := DataW.trod_array hu hx
          refine (are_rows hc.1 (fun cs x h => trod_kinds d e k0 hk0 q cs x h) n cs (by rw [hl, hc.2]) fun i hi => ?_)
          have := hel i hi
          rw [hc.1, List.getElem?_eq_getElem (by omega)] at this
          exact ⟨_, this⟩
        · cases hk
      · cases hk
    · rename_i fs hu
      split at hk
      · rename_i k0 hk0
        split at hk
        · rename_i hc
          injection hk with hk; subst hk
          obtain ⟨xs, q, _, _, hl, hxl, hel⟩ := DataW.trod_struct hu hx
          have := kinds_fields (m := q) (K := kinds P d) (fun t ks h cs x hx => trod_kinds d t ks h q cs x hx) fs.toList 0 k0 cs hk0 (by rw [hl, hc]; omega) (fun f hf => by
            obtain ⟨i, hi, he⟩ := List.getElem_of_mem hf
            have hfi : fs[i]? = some f := by rw [← he]; simp at hi ⊢
            have := hel i f hfi
            have hlt : i < xs.length := by rw [hxl]; exact (Array.getElem?_eq_some_iff.1 hfi).1
            rw [List.getElem?_eq_getElem hlt] at this
            exact ⟨_, this⟩)
          rw [List.drop_zero] at this
          exact this
        · cases hk
      · cases hk
    · cases hk
/-- An argument that is an array or a struct. -/
theorem open_row {r : Reach} {b0 : Nat} {t : TypeId} {v : Value} {d : DataW H} {ps : List MemPlace} {n : Nat} {ks : List Kd} (hu : (match P.underlying t with | some (.struct _) | some (.array _ _) => true | _ => false) = true) (hk : kinds P n t = some ks)
    (hok : Value.okWide P w r b0 t v) (h : DataW.Trod enc P w base spare held t v d ps) : ∃ cs : List Value, v = .agg cs.toArray ∧ AreKd w ks cs := by
  obtain ⟨m, hf⟩ := h
  have := trod_kinds n t ks hk m _ _ hf
  have hv : ∃ cs, v = .agg cs := by
    simp only [Value.okWide] at hok
    split at hok
    · obtain ⟨cs, rfl, _⟩ := hok; exact ⟨cs, rfl⟩
    · obtain ⟨cs, rfl, _⟩ := hok; exact ⟨cs, rfl⟩
    · rename_i h1 h2
      split at hu
      · rename_i fs he; exact absurd he (h1 fs)
      · rename_i k e he; exact absurd he (h2 k e)
      · cases hu
  obtain ⟨cs, rfl⟩ := hv
  exact ⟨cs.toList, by simp, this⟩
/-- An argument that is a slice. -/
theorem open_sl {r : Reach} {b0 : Nat} {t e : TypeId} {v : Value} {d : DataW H} {ps : List MemPlace} {n : Nat} {kd : Kd} (hu : P.underlying t = some (.slice e)) (hk : kinds P n t = some [kd])
    (hok : Value.okWide P w r b0 t v) (h : DataW.Trod enc P w base spare held t v d ps) : IsKd w kd v := by
  obtain ⟨m, hf⟩ := h
  have := trod_kinds n t _ hk m _ _ hf
  obtain ⟨a, l, c, rfl⟩ := okWide_slice hu hok
  obtain ⟨u, h1, h2⟩ := this.2 0 kd rfl
  simp [Value.cells] at h1
  rw [h1]; exact h2
end

/-- Cells of one kind of integers. -/
theorem AreKd.ints {w : World} {m : Nat} {k : IntKind} {cs : List Value} (h : AreKd w (List.replicate m (.int k)) cs) : ∃ ns : List Int, ns.length = m ∧ cs = ns.map (Value.int k) ∧ ∀ x ∈ ns, (Lit.int k x).wf = true := by
  have hl : cs.length = m := by simpa using h.1
  obtain ⟨ns, e, hw⟩ := ints_of_cells (k := k) cs (fun i hi => by
    obtain ⟨v, h1, h2⟩ := h.2 i (.int k) (by rw [List.getElem?_replicate, if_pos (by omega)])
    rw [IsKd] at h2
    obtain ⟨n, rfl, hw⟩ := h2
    exact ⟨n, h1, hw⟩)
  exact ⟨ns, by rw [← hl, e]; simp, e, hw⟩
theorem AreKd.cut {w : World} {ks ks' : List Kd} {cs : List Value} (h : AreKd w (ks ++ ks') cs) : ∃ c1 c2, cs = c1 ++ c2 ∧ AreKd w ks c1 ∧ AreKd w ks' c2 := by
  have hl : cs.length = ks.length + ks'.length := by simpa using h.1
  refine ⟨cs.take ks.length, cs.drop ks.length, by simp, ⟨by simp; omega, fun j kd hj => ?_⟩, ⟨by simp; omega, fun j kd hj => ?_⟩⟩
  · have hlt : j < ks.length := (List.getElem?_eq_some_iff.1 hj).1
    rw [List.getElem?_take_of_lt hlt]
    exact h.2 j kd (by rw [List.getElem?_append_left hlt]; exact hj)
  · rw [List.getElem?_drop]
    exact h.2 _ kd (by rw [List.getElem?_append_right (by omega)]; simpa using hj)
theorem AreKd.head {w : World} {k : Kd} {ks : List Kd} {cs : List Value} (h : AreKd w (k :: ks) cs) : ∃ v c, cs = v :: c ∧ IsKd w k v ∧ AreKd w ks c := by
  obtain ⟨c1, c2, rfl, h1, h2⟩ := AreKd.cut (ks := [k]) (ks' := ks) h
  obtain ⟨v, hv, hk⟩ := h1.2 0 k rfl
  match c1, h1.1 with
  | [u], _ => simp at hv; subst hv; exact ⟨u, c2, rfl, hk, h2⟩
theorem AreKd.done {w : World} {cs : List Value} (h : AreKd w [] cs) : cs = [] := List.eq_nil_of_length_eq_zero (by simpa using h.1)
/-- A slice's elements. -/
theorem IsKd.rows {w : World} {ks : List Kd} {v : Value} (h : IsKd w (.slice ks) v) : ∃ A n c, ∃ xs : List Value, v = .slice A n c ∧ n ≤ c ∧ c ≤ maxLen ∧ Sl w ks.length A n xs ∧ (A = none → c = 0) ∧ ∀ i, i < n → AreKd w ks ((xs.drop (i * ks.length)).take ks.length) := by
  rw [IsKd] at h
  obtain ⟨A, n, c, xs, rfl, hn, hc, hs, h0, hx⟩ := h
  refine ⟨A, n, c, xs, rfl, hn, hc, hs, h0, fun i hi => ?_⟩
  have hle : (i + 1) * ks.length ≤ n * ks.length := Nat.mul_le_mul_right _ (by omega)
  rw [Nat.add_mul] at hle
  refine ⟨by rw [List.length_take, List.length_drop, hs.1]; omega, fun j kd hj => ?_⟩
  have hlt : j < ks.length := (List.getElem?_eq_some_iff.1 hj).1
  obtain ⟨u, h1, h2⟩ := hx i hi j hlt
  have e : ks[j] = kd := by rw [List.getElem?_eq_getElem hlt] at hj; exact Option.some.inj hj
  rw [e] at h2
  exact ⟨u, by rw [List.getElem?_take_of_lt hlt, List.getElem?_drop]; exact h1, h2⟩
/-- The kinds of a line's cells, of a slice of lines. -/
def kLine : List Kd := List.replicate 8 (.int .u64)
theorem IsKd.lines {w : World} {v : Value} (h : IsKd w (.slice kLine) v) : ∃ A n c, ∃ xs : List Int, v = .slice A n c ∧ n ≤ c ∧ c ≤ maxLen ∧ Sl w 8 A n (xs.map (Value.int .u64)) ∧ (A = none → c = 0) := by
  rw [IsKd] at h
  obtain ⟨A, n, c, xs, rfl, hn, hc, hs, h0, hx⟩ := h
  have hl : xs.length = n * 8 := hs.1
  obtain ⟨ns, e, _⟩ := ints_of_cells (k := .u64) xs (fun i hi => by
    obtain ⟨u, h1, h2⟩ := hx (i / 8) (by omega) (i % 8) (by show i % 8 < 8; omega)
    have e1 : kLine[i % 8]'(by show i % 8 < 8; omega) = .int .u64 := List.getElem_replicate _
    rw [e1, IsKd] at h2
    obtain ⟨m, rfl, hw⟩ := h2
    have e2 : i / 8 * kLine.length + i % 8 = i := by show i / 8 * 8 + i % 8 = i; omega
    rw [e2] at h1
    exact ⟨m, h1, hw⟩)
  exact ⟨A, n, c, ns, rfl, hn, hc, by rw [← e]; exact hs, h0⟩
/-- A slice of integers of one kind. -/
theorem IsKd.ints {w : World} {k : IntKind} {v : Value} (h : IsKd w (.slice [.int k]) v) : ∃ A n c, ∃ xs : List Int, v = .slice A n c ∧ n ≤ c ∧ c ≤ maxLen ∧ Sl w 1 A n (xs.map (Value.int k)) ∧ ∀ x ∈ xs, (Lit.int k x).wf = true := by
  obtain ⟨A, n, c, xs, rfl, hn, hc, hs, h0, hx⟩ := h.rows
  have hl : xs.length = n := by simpa using hs.1
  obtain ⟨ns, e, hw⟩ := ints_of_cells (k := k) xs (fun i hi => by
    have h1 := hx i (by omega)
    have e1 : (xs.drop (i * [Kd.int k].length)).take [Kd.int k].length = [xs[i]] := by
      simp only [List.length_cons, List.length_nil, Nat.zero_add, Nat.mul_one]
      rw [List.drop_eq_getElem_cons hi]; rfl
    rw [e1] at h1
    obtain ⟨v, c, h2, h3, _⟩ := h1.head
    injection h2 with h2 _
    rw [IsKd] at h3
    obtain ⟨m, rfl, hw⟩ := h3
    exact ⟨m, by rw [List.getElem?_eq_getElem hi, h2], hw⟩)
  exact ⟨A, n, c, ns, rfl, hn, hc, by rw [← e]; exact hs, hw⟩
end Go.Proofs.YtcjoinhngdfdmaaGreatDoor
end
