/- Texts of the walk, one behind the other: Kit Mem Seq Seo Evt. No condition. -/
import Derived.Below
import Derived.BigQuiet
import Derived.ChangeKeysEq
import Derived.Deep.MidRow
import Derived.Lib.Hide
import Derived.OpenShut
import Derived.ProofKit
import Derived.WalkKit
section
namespace Go.Proofs.Ytnocekhgabgffaa
open Go.ChangeShapes Go.WideShapes Go.ChangeAt Go.RowKit

section
variable {H : Type} {enc : TypeId × Value → H} {P : Program}

/-- Arguments read as they did where nothing below the old heap's size has changed. -/
theorem trodAll_stay (hl : laidOutB P = true) {W W' : World} (hb : Below W.heap.size W W') : ∀ {ts : List TypeId} {vs : List Value} {ds : List (DataW H)} {ps : List MemPlace},
    (∀ t ∈ ts, P.readableRec t = true ∧ t < P.types.size) → DataW.TrodAll enc P W 0 (fun _ => true) true ts vs ds ps → (∀ x ∈ ps, x.block < W.heap.size) →
    DataW.TrodAll enc P W' 0 (fun b => decide (b < W.heap.size)) true ts vs ds ps
  | [], _, _, _, _, h, _ => by
    obtain ⟨rfl, rfl, rfl⟩ := trodAll_nil h
    exact rfl
  | t :: ts, _, _, _, hts, h, hlt => by
    obtain ⟨v, vs1, d, ds1, a, b, rfl, rfl, rfl, h1, h2⟩ := trodAll_cons h
    have ht := hts t (List.mem_cons_self ..)
    exact ⟨a, b, Below.trod hl ht.1 ht.2 h1 hb (fun x hx => hlt x (List.mem_append_left _ hx)),
      trodAll_stay hl hb (fun t' h' => hts t' (List.mem_cons_of_mem _ h')) h2 (fun x hx => hlt x (List.mem_append_right _ hx)), rfl⟩

theorem trodAll_lengths {w : World} {base : Nat} {sp : Nat → Bool} {hd : Bool} : ∀ {ts : List TypeId} {vs : List Value} {ds : List (DataW H)} {ps : List MemPlace}, DataW.TrodAll enc P w base sp hd ts vs ds ps → ds.length = ts.length
  | [], _, _, _, h => by obtain ⟨rfl, rfl, rfl⟩ := trodAll_nil h; rfl
  | t :: ts, _, _, _, h => by
    obtain ⟨v, vs1, d, ds1, a, b, rfl, rfl, rfl, h1, h2⟩ := trodAll_cons h
    simp [trodAll_lengths h2]

/-- THE ROW's STEP FOR A LAW. -/
theorem law_ret {C : Checked} {os : Os} {f : FuncId} {fn : Func} {s : ChangeSpec} {tb : TypeId}
    (own : ownKnob C.prog.godebug = none) (started : os.Started) (noInit : C.prog.inits.idxOf? f = none) (hfn : C.prog.funcs[f]? = some fn)
    (witness : ∃ (w : World) (tape : Tape) (i : Input), w.os = os ∧ (w.forCall tape i).Shaped C.prog ∧ i.vars = [] ∧ Input.okWide C.prog (w.forCall tape i) .any w.heap.size f i ∧
      s.pre6 enc C.prog fn [] false (w.forCall tape i).memory i.args ∧ ({} : Assume).holds C.prog (lone (Frame.enter C.prog f i.args .normal) [] (w.forCall tape i)))
    (hsv : s.vars = []) (hs : ∀ ds : List (DataW H), ds.length = fn.params.toList.length → s.fn H ds = { results := [.lit (.bool true)], args := ds })
    (hl : laidOutB C.prog = true) (hps : fn.params.toList.all (fun t => C.prog.readableRec t && decide (t < C.prog.types.size)) = true)
    (hr : fn.resultTypes = #[tb]) (htb : C.prog.underlying tb = some .bool)
    (walk : ∀ (W : World) (base : Nat) (args : Array Value) (ds : List (DataW H)) (ps : List MemPlace),
      (∀ (j : Nat) t v, fn.params[j]? = some t → args[j]? = some v → Value.okWide C.prog W .any base t v) →
      DataW.TrodAll enc C.prog W 0 (fun _ => true) true fn.params.toList args.toList ds ps → (∀ x ∈ ps, x.block < W.heap.size) → W.noneFrozen ps →
      (DataW.weightsEach C.prog fn.params.toList ds).all (· ≤ reachBytes) = true →
      Calls C.prog f args W fun e W' => e = .returned (.bool true) ∧ Below W.heap.size W W') :
    ReturnsInHanded {} C os f .any (s.pre6 enc C.prog fn [] false) (s.post enc C.prog fn false true false false) := by
  refine returnsInHanded_of_calls own started noInit witness ?_
  intro w tape i _ _ _ hok hpre _
  obtain ⟨_, _, _, fn', hfn', _, _, _, _, hval⟩ := hok
  have e : fn' = fn := Option.some.inj (hfn'.symm.trans hfn)
  subst e
  obtain ⟨⟨ds, gs, before, hw, _⟩, hz⟩ := hpre
  have hsz := hz.weights hw
  have hw' := DataW.Whole.of_heap (w' := w.forCall tape i) (by rfl) hw
  have hlt : ∀ x ∈ before, x.block < (w.forCall tape i).heap.size := fun x hx => hw'.lt x hx
  have hW := hw'
  obtain ⟨p, q, hA, hV, rfl, hfz, hnd⟩ := hw'
  rw [hsv] at hV
  obtain ⟨rfl, rfl⟩ := trodVars_none hV
  simp only [List.append_nil] at hlt hfz hW
  have hsz' : (DataW.weightsEach C.prog fn'.params.toList ds).all (· ≤ reachBytes) = true := by
    have e2 : s.plain.varTypes C.prog = [] := by simp [DataSpec.varTypes, ChangeSpec.plain, hsv]
    have hz3 : (DataW.weightsEach C.prog (fn'.params.toList ++ s.plain.varTypes C.prog) (ds ++ [])).all (· ≤ reachBytes) = true := hsz
    rw [e2, List.append_nil, List.append_nil] at hz3
    exact hz3
  refine (walk (w.forCall tape i) w.heap.size i.args ds p hval hA hlt hfz hsz').mono fun e W' ⟨he, hb⟩ => ?_
  subst he
  have hlen := trodAll_lengths hA
  refine ChangeSpec.post_blind ⟨ds, [], p, [], p, [], hW, ?_, ?_, ?_, ?_, ?_⟩
  · rw [List.append_nil, hs ds hlen, hr]
    exact trodAll_mk1 (shut_bool htb _)
  · rw [List.append_nil, hs ds hlen]
    refine trodAll_stay hl hb (fun t ht => ?_) hA hlt
    have := List.all_eq_true.1 hps t ht
    simpa using this
  · rw [hsv, List.append_nil, hs ds hlen]
    rfl
  · exact World.keptBut_mono (fun x hx => ⟨hx, .inr (.inl hx)⟩) (hb.frame (· ∈ p))
  · intro h; cases h
end

/-! ### A REGION THAT DRAWS ITS ORDER, whose operations only read and whose callees make memory but change none that was there: one walk serves every order. -/
/-- A world behind W: below block N all is as it was. -/
def Aft (N : Nat) (W : World) : Type := { w : World // Below N W w }
/-- The world itself. -/
def Aft.w {N : Nat} {W : World} (x : Aft N W) : World := x.val
theorem Aft.below {N : Nat} {W : World} (x : Aft N W) : Below N W x.w := x.property
instance {N : Nat} {W : World} : Nonempty (Aft N W) := ⟨⟨W, Below.refl _ _⟩⟩
theorem Aft.size {N : Nat} {W : World} (x : Aft N W) : W.heap.size ≤ x.w.heap.size := x.below.size
theorem Aft.block {N : Nat} {W : World} (x : Aft N W) {k : Nat} (h : k < N) : x.w.heap[k]? = W.heap[k]? := x.below.block k h
theorem Aft.cell {N : Nat} {W : World} (x : Aft N W) {b : Nat} (h : b < N) (o : Nat) : x.w.cell? ⟨b, o, none⟩ = W.cell? ⟨b, o, none⟩ := x.below.cell (p := ⟨b, o, none⟩) h
theorem calls_aft {P : Program} {f : FuncId} {args : Array Value} {N : Nat} {W : World} {x : Aft N W} {v : Value} (hN : N ≤ W.heap.size)
    (h : Calls P f args x.w fun e w' => e = .returned v ∧ Below x.w.heap.size x.w w') : Calls P f args x.w fun e w'' => e = .returned v ∧ ∃ y : Aft N W, w'' = y.w :=
  h.mono fun _ _ ⟨he, hb⟩ => ⟨he, ⟨⟨_, x.below.trans (hb.mono (Nat.le_trans hN x.size))⟩, rfl⟩⟩
theorem calls_aft_same {P : Program} {f : FuncId} {args : Array Value} {N : Nat} {W : World} {x : Aft N W} {v : Value}
    (h : Calls P f args x.w fun e w' => e = .returned v ∧ x.w = w') : Calls P f args x.w fun e w'' => e = .returned v ∧ ∃ y : Aft N W, w'' = y.w :=
  h.mono fun _ _ ⟨he, hb⟩ => ⟨he, x, hb.symm⟩

theorem wp_region_aft {P : Program} {id : Nat} {Q : Exit → Act → World → Prop} {a : Act} {w : World} {l : List Oper} (N : Nat) (hm : P.follows .mixedOrders = true) (hB : Region.lexB .any l.toArray = true)
    (h : wpQuiet P l.toArray (fun w' => ∃ x : Aft N w, w' = x.w) (fun a' => ∀ w', (∃ x : Aft N w, w' = x.w) → Q .normal a' w') l a) : (Code.region id l.toArray true).wp P Q a w :=
  wp_region_quiet (C := fun w' => ∃ x : Aft N w, w' = x.w) hm hB ⟨⟨_, (Below.refl _ _).drew⟩, rfl⟩ (by simpa using h)

/-! ### '==' of two arrays of integers. -/
theorem eqItems_ints {P : Program} (w : World) (d : Nat) {e : TypeId} {k : IntKind} (he : P.underlying e = some (.int k)) (hc : P.cellsOf e = 1) (ns ms : List Int) : ∀ (is : List Nat), (∀ i ∈ is, i < ns.length ∧ i < ms.length) →
    (Op.eqItems (d + 1) e 1 (ns.map (Value.int k)).toArray (ms.map (Value.int k)).toArray is).run P w = .ok (is.all fun i => ns.getD i 0 == ms.getD i 0) w
  | [], _ => by simp [Op.eqItems]
  | i :: is, h => by
    obtain ⟨h1, h2⟩ := h i (by simp)
    have p1 : (part e (ns.map (Value.int k)).toArray i).run P w = .ok (.int k (ns.getD i 0)) w := run_part_plain w (by simp [Program.plainKey, he]) (by simp [h1])
    have p2 : (part e (ms.map (Value.int k)).toArray i).run P w = .ok (.int k (ms.getD i 0)) w := run_part_plain w (by simp [Program.plainKey, he]) (by simp [h2])
    have ih := eqItems_ints w d he hc ns ms is (fun j hj => h j (by simp [hj]))
    simp only [Op.eqItems, Nat.mul_one, Sem.run_bind, p1, p2, Result.andThen_ok, run_equalIn_int w d e k k _ _ he]
    cases hb : (ns.getD i 0 == ms.getD i 0)
    · simp at hb; simp [hb]
    · simp at hb; simp [hb, ih]
theorem eq_ints_array {P : Program} (w : World) {t e : TypeId} {n : Nat} {i : TypeInfo} {k : IntKind} (hu : P.underlying t = some (.array n e)) (hi : P.info? e = some i) (he : P.underlying e = some (.int k)) (hc : P.cellsOf e = 1) (ns ms : List Int)
    (hn : ns.length = n) (hm : ms.length = n) : (Op.equalIn 10000 t (.agg (ns.map (Value.int k)).toArray) (.agg (ms.map (Value.int k)).toArray)).run P w = .ok (ns == ms) w := by
  rw [run_equalIn_array w 9999 _ _ hu hi, hc, eqItems_ints w 9998 he hc ns ms _ (by intro i hi; simp at hi; omega)]
  congr 1
  rw [Bool.eq_iff_iff]
  simp only [List.all_eq_true, List.mem_range, beq_iff_eq]
  constructor
  · intro h
    apply List.ext_getElem (by omega)
    intro j h1 h2
    have := h j (by omega)
    simpa [h1, h2] using this
  · rintro rfl j _; rfl
end Go.Proofs.Ytnocekhgabgffaa
end
section
namespace Go.Proofs.Ytnocekhgabgffaa
open Go.RowKit
set_option linter.unusedVariables false

/-! ### What a block holds -/
/-- A cell of a block. -/
def rowCell : Option Obj → Nat → Option Value
  | some (.cells c _ _), o => c[o]?
  | _, _ => none
theorem rowCell_some (c : Array Value) (t : TypeId) (f : Nat × Nat) (o : Nat) : rowCell (some (.cells c t f)) o = c[o]? := rfl
theorem cell_row (w : World) (b o : Nat) : w.cell? ⟨b, o, none⟩ = rowCell (w.heap[b]?) o := by
  unfold World.cell? rowCell
  cases h : w.heap[b]? with
  | none => simp
  | some x => cases x <;> simp
/-- May a cell of a block not be written? -/
def rowFrozen : Option Obj → Nat → Bool
  | some (.cells _ _ (lo, hi)), o => lo ≤ o && o < hi
  | _, _ => false
theorem rowFrozen_some (c : Array Value) (t : TypeId) (o : Nat) : rowFrozen (some (.cells c t (0, 0))) o = false := by simp [rowFrozen]
theorem frozen_row (w : World) (b o : Nat) : w.frozen? ⟨b, o, none⟩ = rowFrozen (w.heap[b]?) o := by
  unfold World.frozen? rowFrozen
  cases h : w.heap[b]? with
  | none => simp
  | some x => cases x <;> simp

/-- n cells from place o on, of a block of so many. -/
def Fit (o n size : Nat) : Prop := o + n ≤ size
instance (o n size : Nat) : Decidable (Fit o n size) := inferInstanceAs (Decidable (o + n ≤ size))
theorem Fit.out {o n size : Nat} (h : Fit o n size) : o + n ≤ size := h
theorem Fit.all (n : Nat) : Fit 0 n n := by unfold Fit; omega

/-- Some cells of a block. -/
def rowIn : Option Obj → Nat → Nat → Bool
  | some (.cells c _ _), o, n => decide (Fit o n c.size)
  | _, _, _ => false
theorem rowIn_some (c : Array Value) (t : TypeId) (f : Nat × Nat) (o n : Nat) : rowIn (some (.cells c t f)) o n = decide (Fit o n c.size) := rfl
/-- Some cells of a block, all of which may be written. -/
def rowHas : Option Obj → Nat → Nat → Bool
  | some (.cells c _ f), o, n => decide (Fit o n c.size) && f == (0, 0)
  | _, _, _ => false
theorem rowHas_some (c : Array Value) (t : TypeId) (o n : Nat) : rowHas (some (.cells c t (0, 0))) o n = decide (Fit o n c.size) := by simp [rowHas]
/-- These cells. -/
def rowPart : Option Obj → Nat → Nat → Array Value
  | some (.cells c _ _), o, n => (c.toList.drop o |>.take n).toArray
  | _, _, _ => #[]
theorem rowPart_some (c : Array Value) (t : TypeId) (f : Nat × Nat) (o n : Nat) : rowPart (some (.cells c t f)) o n = (c.toList.drop o |>.take n).toArray := rfl
theorem rowPart_full (c : Array Value) (t : TypeId) (f : Nat × Nat) (n : Nat) (h : c.size = n) : rowPart (some (.cells c t f)) 0 n = c := by
  subst h
  rw [rowPart_some, List.drop_zero, List.take_of_length_le (by simp), Array.toArray_toList]
theorem rowPart_lit (c : List Value) (t : TypeId) (f : Nat × Nat) (o n : Nat) : rowPart (some (.cells c.toArray t f)) o n = (c.drop o |>.take n).toArray := by rw [rowPart_some]
/-- Some cells of a list replaced. -/
def splice {α : Type} (xs : List α) (o : Nat) (vs : List α) : List α := xs.take o ++ vs ++ xs.drop (o + vs.length)
theorem length_splice {α : Type} (xs : List α) (o : Nat) (vs : List α) (h : o + vs.length ≤ xs.length) : (splice xs o vs).length = xs.length := by simp [splice]; omega
theorem splice_all {α : Type} (xs vs : List α) (h : vs.length = xs.length) : splice xs 0 vs = vs := by simp [splice, h]
theorem splice_map {α β : Type} (f : α → β) (xs : List α) (o : Nat) (vs : List α) : splice (xs.map f) o (vs.map f) = (splice xs o vs).map f := by simp [splice, List.map_take, List.map_drop]
theorem splice_cons {α : Type} (xs : List α) (o : Nat) (v : α) (vs : List α) (h : o < xs.length) : splice (xs.set o v) (o + 1) vs = splice xs o (v :: vs) := by
  have e : xs.set o v = xs.take o ++ v :: xs.drop (o + 1) := List.set_eq_take_append_cons_drop.trans (if_pos h)
  have h2 : (xs.take o ++ v :: xs.drop (o + 1)).drop (o + 1 + vs.length) = xs.drop (o + 1 + vs.length) := by
    have e1 : (List.take o xs).length = o := by simp; omega
    have e2 : (xs.take o ++ v :: xs.drop (o + 1)) = (xs.take o ++ [v]) ++ xs.drop (o + 1) := by simp
    rw [e2, List.drop_append]
    have e3 : (List.take o xs ++ [v]).length = o + 1 := by simp; omega
    have e4 : (List.take o xs ++ [v]).drop (o + 1 + vs.length) = [] := List.drop_eq_nil_of_le (by rw [e3]; omega)
    rw [e3, e4, List.drop_drop, List.nil_append]
    congr 1
    omega
  have h3 : (xs.set o v).take (o + 1) = xs.take o ++ [v] := by
    rw [List.take_succ_eq_append_getElem (by simpa using h)]
    simp [List.take_set_of_le (Nat.le_refl o)]
  unfold splice
  rw [h3, e, h2]
  simp [Nat.add_assoc, Nat.add_comm 1]
/-- A block with some of its cells replaced. -/
def rowPut : Option Obj → Nat → Array Value → Option Obj
  | some (.cells c t f), o, vs => some (.cells (splice c.toList o vs.toList).toArray t f)
  | x, _, _ => x
theorem rowPut_some (c : Array Value) (t : TypeId) (f : Nat × Nat) (o : Nat) (vs : Array Value) : rowPut (some (.cells c t f)) o vs = some (.cells (splice c.toList o vs.toList).toArray t f) := rfl
theorem rowPut_full (c : Array Value) (t : TypeId) (f : Nat × Nat) (vs : Array Value) (h : vs.size = c.size) : rowPut (some (.cells c t f)) 0 vs = some (.cells vs t f) := by
  rw [rowPut_some, splice_all _ _ (by simpa using h)]
theorem rowPut_lit (c v : List Value) (t : TypeId) (f : Nat × Nat) (o : Nat) : rowPut (some (.cells c.toArray t f)) o v.toArray = some (.cells (c.take o ++ v ++ c.drop (o + v.length)).toArray t f) := by rw [rowPut_some]; rfl
/-- A block with one cell replaced. -/
def rowSet : Option Obj → Nat → Value → Option Obj
  | some (.cells c t f), o, v => some (.cells (c.setIfInBounds o v) t f)
  | x, _, _ => x
theorem rowSet_some (c : Array Value) (t : TypeId) (f : Nat × Nat) (o : Nat) (v : Value) : rowSet (some (.cells c t f)) o v = some (.cells (c.setIfInBounds o v) t f) := rfl

/-! ### Blocks of other worlds -/
theorem heap_drew (w : World) (b : Nat) : w.drew.heap[b]? = w.heap[b]? := rfl
theorem heap_drewN (w : World) (n b : Nat) : (w.drewN n).heap[b]? = w.heap[b]? := rfl
theorem heap_alloc (w : World) (o : Obj) (b : Nat) : (w.alloc o).heap[b]? = (w.heap[b]?).or (if b = w.heap.size then some o else none) := by
  rcases Nat.lt_trichotomy b w.heap.size with h | h | h
  · rw [Below.heap_alloc w o b h, Array.getElem?_eq_getElem h]; rfl
  · subst h; rw [(MapKept.heap_alloc w o).1]; simp
  · have h1 : (w.alloc o).heap[b]? = none := Array.getElem?_eq_none (by simp; omega)
    have h2 : w.heap[b]? = none := Array.getElem?_eq_none (by omega)
    rw [h1, h2]; simp; omega
theorem heap_past (w : World) (n : Nat) : w.heap[w.heap.size + n]? = none := Array.getElem?_eq_none (by omega)
theorem heap_setCell (w : World) (b o : Nat) (v : Value) (k : Nat) : (w.setCell ⟨b, o, none⟩ v).heap[k]? = if k = b then rowSet (w.heap[b]?) o v else w.heap[k]? := by
  unfold World.setCell
  simp only [Array.getElem?_modify]
  by_cases h : b = k
  · subst h
    simp only [if_true]
    cases e : w.heap[b]? with
    | none => rfl
    | some x => cases x <;> simp [rowSet]
  · rw [if_neg h, if_neg (fun e => h e.symm)]
theorem size_setCells (b : Nat) : ∀ (vs : List Value) (o : Nat) (w : World), (w.setCells b o vs).heap.size = w.heap.size
  | [], _, _ => rfl
  | v :: vs, o, w => by rw [World.setCells, size_setCells b vs]; simp
theorem heap_setCells (b k : Nat) : ∀ (vs : List Value) (o : Nat) (w : World), rowHas (w.heap[b]?) o vs.length = true → (w.setCells b o vs).heap[k]? = if k = b then rowPut (w.heap[b]?) o vs.toArray else w.heap[k]?
  | [], o, w, h => by
    simp only [World.setCells]
    split
    · rename_i e; subst e
      cases e : w.heap[k]? with
      | none => rfl
      | some x => cases x <;> simp [rowPut, splice]
    · rfl
  | v :: vs, o, w, h => by
    have h1 : rowHas ((w.setCell ⟨b, o, none⟩ v).heap[b]?) (o + 1) vs.length = true := by
      rw [heap_setCell, if_pos rfl]
      cases e : w.heap[b]? with
      | none => rw [e] at h; exact h
      | some x =>
        rw [e] at h
        cases x with
        | cells c t f =>
          simp only [rowHas, rowSet, Bool.and_eq_true, decide_eq_true_eq, List.length_cons, Array.size_setIfInBounds] at h ⊢
          exact ⟨by have := h.1.out; unfold Fit; omega, h.2⟩
        | _ => simp [rowHas] at h
    rw [World.setCells, heap_setCells b k vs (o + 1) _ h1, heap_setCell, heap_setCell, if_pos rfl]
    split
    · cases e : w.heap[b]? with
      | none => rfl
      | some x =>
        rw [e] at h
        cases x with
        | cells c t f =>
          simp only [rowHas, Bool.and_eq_true, decide_eq_true_eq, List.length_cons] at h
          have := h.1.out
          simp only [rowSet, rowPut, Array.toList_setIfInBounds]
          rw [splice_cons _ _ _ _ (by simp; omega)]
        | _ => simp [rowHas] at h
    · rfl

theorem fit_le {a b c : Nat} (h : a + b ≤ c) : Fit a b c = True := by simp [Fit, h]
theorem fit_all (n : Nat) : Fit 0 n n = True := by simp [Fit.all]
/-- A value that is one cell; an array of such. -/
def allOne (cs : Array Value) : Prop := cs.all (·.oneCell') = true
theorem allOne_list (l : List Value) (h : l.all (·.oneCell') = true) : allOne l.toArray := by
  unfold allOne; rw [List.all_toArray]; exact h
theorem one_int (k : IntKind) (n : Int) : (Value.int k n).oneCell' = true := rfl
theorem one_bool (b : Bool) : (Value.bool b).oneCell' = true := rfl
theorem one_pointer (p : Option Addr) : (Value.pointer p).oneCell' = true := rfl
theorem one_slice (p : Option Addr) (l c : Nat) : (Value.slice p l c).oneCell' = true := rfl
/-- Some cells of a world's block replaced. -/
def putRow (w : World) (b o : Nat) (cs : Array Value) : World := w.setCells b o cs.toList
theorem size_putRow (w : World) (b o : Nat) (cs : Array Value) : (putRow w b o cs).heap.size = w.heap.size := size_setCells b _ _ _
theorem heap_putRow (w : World) (b o : Nat) (cs : Array Value) (k : Nat) (h : rowHas (w.heap[b]?) o cs.size = true) : (putRow w b o cs).heap[k]? = if k = b then rowPut (w.heap[b]?) o cs else w.heap[k]? := by
  unfold putRow; rw [heap_setCells b k cs.toList o w (by simpa using h), Array.toArray_toList]
theorem World.ext_heap {a b : World} (h : a.heap = b.heap) (ht : a.tape = b.tape) (hd : a.drawn = b.drawn) (ho : a.os = b.os) (hu : a.output = b.output) : a = b := by
  cases a; cases b; simp_all
theorem setCells_rest (b : Nat) : ∀ (vs : List Value) (o : Nat) (w : World), (w.setCells b o vs).tape = w.tape ∧ (w.setCells b o vs).drawn = w.drawn ∧ (w.setCells b o vs).os = w.os ∧ (w.setCells b o vs).output = w.output
  | [], _, _ => ⟨rfl, rfl, rfl, rfl⟩
  | v :: vs, o, w => by
    obtain ⟨h1, h2, h3, h4⟩ := setCells_rest b vs (o + 1) (w.setCell ⟨b, o, none⟩ v)
    exact ⟨h1, h2, h3, h4⟩
/-- A new block, all of which is replaced. -/
theorem putRow_new (w : World) (c cs : Array Value) (t : TypeId) (h : cs.size = c.size) : putRow (w.alloc (.cells c t)) w.heap.size 0 cs = w.alloc (.cells cs t) := by
  obtain ⟨h1, h2, h3, h4⟩ := setCells_rest w.heap.size cs.toList 0 (w.alloc (.cells c t))
  refine World.ext_heap (Array.ext_getElem? fun k => ?_) h1 h2 h3 h4
  rw [heap_putRow _ _ _ _ _ (by rw [heap_alloc]; simp [rowHas, h, Fit]), heap_alloc, heap_alloc, heap_alloc]
  by_cases hk : k = w.heap.size
  · subst hk; simp [rowPut_full, h]
  · simp [hk]

/-! ### A value of many cells is loaded, is stored -/
/-- A type of many cells. -/
def Wide (P : Program) (ty : TypeId) (n : Nat) : Prop := (∃ d, P.underlying ty = some d ∧ d.isRow = true) ∧ (P.info? ty).map (·.size) = some n
/-- The load, the store, where nothing better is known of them. -/
def loadElse (P : Program) (ty : TypeId) (b o : Nat) (w : World) : Result Value := (Instr.loadAt ty (.pointer (some ⟨b, o, none⟩))).run P w
def storeElse (P : Program) (ty : TypeId) (b o : Nat) (cs : Array Value) (w : World) : Result Unit := (Instr.storeAt ty (.pointer (some ⟨b, o, none⟩)) (.agg cs)).run P w
theorem load_wide {P : Program} {ty : TypeId} {n : Nat} (hW : Wide P ty n) (w : World) (b o : Nat) : (Instr.loadAt ty (.pointer (some ⟨b, o, none⟩))).run P w =
    if rowIn (w.heap[b]?) o n = true then .ok (.agg (rowPart (w.heap[b]?) o n)) w else loadElse P ty b o w := by
  split
  · rename_i h
    obtain ⟨⟨d, hu, hd⟩, hi⟩ := hW
    cases e : w.heap[b]? with
    | none => rw [e] at h; cases h
    | some x =>
      rw [e] at h
      cases x with
      | cells c t f =>
        have hf : o + n ≤ c.size := by simp [rowIn] at h; exact h.out
        refine run_loadAt_mid w b o ty ((c.toList.drop o).take n) d ?_ hu hd (by rw [hi]; simp; omega)
        have := World.rangeAt_of_block e o n
        have e2 : (c.extract o (o + n)).toList = (c.toList.drop o).take n := by simp
        rwa [e2] at this
      | _ => simp [rowIn] at h
  · rfl
open Classical in
theorem store_wide {P : Program} {ty : TypeId} {n : Nat} (hi : (P.info? ty).map (·.size) = some n) (w : World) (b o : Nat) (cs : Array Value) : (Instr.storeAt ty (.pointer (some ⟨b, o, none⟩)) (.agg cs)).run P w =
    if rowHas (w.heap[b]?) o n = true ∧ cs.size = n ∧ allOne cs then .ok () (putRow w b o cs) else storeElse P ty b o cs w := by
  split
  · rename_i h
    obtain ⟨h, hs, h1⟩ := h
    refine run_storeAt_mid w b o ty cs ?_ (by rw [hi, hs]) h1
    intro j hj
    rw [cell_row, frozen_row]
    cases e : w.heap[b]? with
    | none => rw [e] at h; cases h
    | some x =>
      rw [e] at h
      cases x with
      | cells c t f =>
        simp [rowHas] at h
        obtain ⟨h, rfl⟩ := h
        have := h.out
        rw [rowFrozen_some, rowCell_some]
        simp; omega
      | _ => simp [rowHas] at h
  · rfl

/-- A load, a store, of a type of so many cells, as the walk meets it. -/
def loadW (P : Program) (ty : TypeId) (n : Nat) (x : Value) (w : World) : Result Value := (Instr.loadAt ty x).run P w
def storeW (P : Program) (ty : TypeId) (n : Nat) (x y : Value) (w : World) : Result Unit := (Instr.storeAt ty x y).run P w
/-- The same as operations: opened by no rule but these. -/
def loadS (ty : TypeId) (n : Nat) (x : Value) : Sem Value := Instr.loadAt ty x
def storeS (ty : TypeId) (n : Nat) (x y : Value) : Sem Unit := Instr.storeAt ty x y
theorem run_loadS (P : Program) (ty : TypeId) (n : Nat) (x : Value) (w : World) : (loadS ty n x).run P w = loadW P ty n x w := rfl
theorem run_storeS (P : Program) (ty : TypeId) (n : Nat) (x y : Value) (w : World) : (storeS ty n x y).run P w = storeW P ty n x y w := rfl
theorem loadW_at {P : Program} {ty : TypeId} {n : Nat} (hW : Wide P ty n) (w : World) (b o : Nat) : loadW P ty n (.pointer (some ⟨b, o, none⟩)) w =
    if rowIn (w.heap[b]?) o n = true then .ok (.agg (rowPart (w.heap[b]?) o n)) w else loadElse P ty b o w := load_wide hW w b o
open Classical in
theorem storeW_at {P : Program} {ty : TypeId} {n : Nat} (hW : Wide P ty n) (w : World) (b o : Nat) (cs : Array Value) : storeW P ty n (.pointer (some ⟨b, o, none⟩)) (.agg cs) w =
    if rowHas (w.heap[b]?) o n = true ∧ cs.size = n ∧ allOne cs then .ok () (putRow w b o cs) else storeElse P ty b o cs w := store_wide hW.2 w b o cs

/-! ### Numbers in a block: its first cells are these, others may follow -/
/-- The cells of so many numbers. -/
def vs (xs : List Int) : Array Value := (xs.map (Value.int .u64)).toArray
theorem vs_size (xs : List Int) : (vs xs).size = xs.length := by simp [vs]
theorem vs_get (xs : List Int) (i : Nat) : (vs xs)[i]? = (xs[i]?).map (Value.int .u64) := by simp [vs]
theorem vs_one (xs : List Int) : allOne (vs xs) := by simp [allOne, vs, Value.oneCell']
/-- A block's cells: numbers, then others. -/
def bk (xs : List Int) (r : List Value) : Array Value := (xs.map (Value.int .u64) ++ r).toArray
theorem bk_vs (xs : List Int) : vs xs = bk xs [] := by simp [vs, bk]
theorem bk_size (xs : List Int) (r : List Value) : (bk xs r).size = xs.length + r.length := by simp [bk]
/-- Line i. -/
def ln (xs : List Int) (i : Nat) : List Int := (xs.drop (i * 8)).take 8
theorem ln_length (xs : List Int) (i : Nat) (h : Fit (i * 8) 8 xs.length) : (ln xs i).length = 8 := by have := h.out; simp [ln]; omega
/-- The lines with line i made l. -/
def lnPut (xs : List Int) (i : Nat) (l : List Int) : List Int := splice xs (i * 8) l
theorem lnPut_length (xs : List Int) (i : Nat) (l : List Int) (h : Fit (i * 8) 8 xs.length) (hl : l.length = 8) : (lnPut xs i l).length = xs.length := by
  have := h.out; unfold lnPut; rw [length_splice _ _ _ (by omega)]
theorem fit_more {o n a : Nat} (h : Fit o n a) (b : Nat) : Fit o n (a + b) := by have := h.out; unfold Fit; omega
theorem rowIn_bk {xs : List Int} {i : Nat} (h : Fit (i * 8) 8 xs.length) (r : List Value) (t : TypeId) (f : Nat × Nat) : rowIn (some (.cells (bk xs r) t f)) (i * 8) 8 = true := by
  rw [rowIn_some, bk_size]; simp [fit_more h]
theorem rowHas_bk {xs : List Int} {i : Nat} (h : Fit (i * 8) 8 xs.length) (r : List Value) (t : TypeId) : rowHas (some (.cells (bk xs r) t (0, 0))) (i * 8) 8 = true := by
  rw [rowHas_some, bk_size]; simp [fit_more h]
theorem rowPart_bk {xs : List Int} {i : Nat} (h : Fit (i * 8) 8 xs.length) (r : List Value) (t : TypeId) (f : Nat × Nat) : rowPart (some (.cells (bk xs r) t f)) (i * 8) 8 = vs (ln xs i) := by
  have := h.out
  have e1 : (xs.map (Value.int .u64) ++ r).drop (i * 8) = (xs.drop (i * 8)).map (Value.int .u64) ++ r := by
    rw [List.drop_append_of_le_length (by simp; omega), List.map_drop]
  have e2 : ((xs.drop (i * 8)).map (Value.int .u64) ++ r).take 8 = ((xs.drop (i * 8)).take 8).map (Value.int .u64) := by
    rw [List.take_append_of_le_length (by simp; omega), List.map_take]
  rw [rowPart_some]
  unfold bk vs ln
  rw [List.toList_toArray, e1, e2]
theorem splice_append {α : Type} (xs r : List α) (o : Nat) (v : List α) (h : o + v.length ≤ xs.length) : splice (xs ++ r) o v = splice xs o v ++ r := by
  unfold splice
  rw [List.take_append_of_le_length (by omega), List.drop_append_of_le_length (by omega)]
  simp
theorem rowPut_bk {xs l : List Int} {i : Nat} (h : Fit (i * 8) l.length xs.length) (r : List Value) (t : TypeId) (f : Nat × Nat) : rowPut (some (.cells (bk xs r) t f)) (i * 8) (vs l) = some (.cells (bk (lnPut xs i l) r) t f) := by
  have := h.out
  rw [rowPut_some]
  unfold bk vs lnPut
  rw [List.toList_toArray, List.toList_toArray, splice_append _ _ _ _ (by simpa using this), splice_map]

/-! ### What a call leaves as it was: all blocks but these -/
structure Chg (l : List Nat) (w w' : World) : Prop where
  os : w'.os = w.os
  tape : w'.tape = w.tape
  output : w'.output = w.output
  size : w.heap.size ≤ w'.heap.size
  block : ∀ k, k < w.heap.size → k ∉ l → w'.heap[k]? = w.heap[k]?
theorem Chg.refl (l : List Nat) (w : World) : Chg l w w := ⟨rfl, rfl, rfl, Nat.le_refl _, fun _ _ _ => rfl⟩
theorem Chg.trans {l : List Nat} {a b c : World} (h : Chg l a b) (k : Chg l b c) : Chg l a c :=
  ⟨k.os.trans h.os, k.tape.trans h.tape, k.output.trans h.output, Nat.le_trans h.size k.size, fun i hi hn => (k.block i (Nat.lt_of_lt_of_le hi h.size) hn).trans (h.block i hi hn)⟩
/-- Later changes of blocks that are new to the first world. -/
theorem Chg.trans' {l l' : List Nat} {a b c : World} (h : Chg l a b) (k : Chg l' b c) (hl : ∀ x ∈ l', x ∈ l ∨ a.heap.size ≤ x) : Chg l a c :=
  ⟨k.os.trans h.os, k.tape.trans h.tape, k.output.trans h.output, Nat.le_trans h.size k.size, fun i hi hn => (k.block i (Nat.lt_of_lt_of_le hi h.size) (fun hm => by
    rcases hl i hm with h1 | h1
    · exact hn h1
    · omega)).trans (h.block i hi hn)⟩
theorem Chg.mono {l l' : List Nat} {a b : World} (h : Chg l a b) (hl : ∀ x ∈ l, x ∈ l' ∨ a.heap.size ≤ x) : Chg l' a b := (Chg.refl l' a).trans' h hl
theorem Chg.keep {l : List Nat} {w w' : World} (h : Chg l w w') {k : Nat} {x : Obj} (hk : w.heap[k]? = some x) (hn : k ∉ l) : w'.heap[k]? = some x := by
  rw [h.block k (Array.getElem?_eq_some_iff.1 hk).1 hn, hk]
theorem Chg.drew {l : List Nat} {a w : World} (h : Chg l a w) : Chg l a w.drew := ⟨h.os, h.tape, h.output, h.size, h.block⟩
theorem Chg.drewN {l : List Nat} {a w : World} (h : Chg l a w) (n : Nat) : Chg l a (w.drewN n) := ⟨h.os, h.tape, h.output, h.size, h.block⟩
theorem Chg.alloc {l : List Nat} {a w : World} (h : Chg l a w) (o : Obj) : Chg l a (w.alloc o) :=
  ⟨h.os, h.tape, h.output, by have := h.size; simp; omega, fun k hk hn => (Below.heap_alloc w o k (Nat.lt_of_lt_of_le hk h.size)).trans (h.block k hk hn)⟩
theorem Chg.setCell {l : List Nat} {a w : World} (h : Chg l a w) (b o : Nat) (v : Value) (hb : b ∈ l ∨ a.heap.size ≤ b) : Chg l a (w.setCell ⟨b, o, none⟩ v) :=
  ⟨h.os, h.tape, h.output, by simpa using h.size, fun k hk hn => (Below.heap_setCell w ⟨b, o, none⟩ v k (by
    rintro rfl
    rcases hb with h1 | h1
    · exact hn h1
    · omega)).trans (h.block k hk hn)⟩
theorem Chg.setCells {l : List Nat} {a : World} (b : Nat) (hb : b ∈ l ∨ a.heap.size ≤ b) : ∀ (vs : List Value) (o : Nat) (w : World), Chg l a w → Chg l a (w.setCells b o vs)
  | [], _, _, h => h
  | v :: vs, o, w, h => Chg.setCells b hb vs (o + 1) _ (h.setCell b o v hb)
theorem Chg.putRow {l : List Nat} {a w : World} (h : Chg l a w) (b o : Nat) (cs : Array Value) (hb : b ∈ l ∨ a.heap.size ≤ b) : Chg l a (putRow w b o cs) := Chg.setCells b hb _ _ _ h
theorem lt_heap {w : World} {b : Nat} {x : Obj} (h : w.heap[b]? = some x) : b < w.heap.size := (Array.getElem?_eq_some_iff.1 h).1
/-- A block that is there. -/
def Old (w : World) (b : Nat) : Prop := b < w.heap.size
theorem old {w : World} {b : Nat} {x : Obj} (h : w.heap[b]? = some x) : Old w b := lt_heap h
theorem Old.lt {w : World} {b : Nat} (h : Old w b) : b < w.heap.size := h
theorem Old.chg {w w' : World} {b : Nat} {l : List Nat} (h : Old w b) (hc : Chg l w w') : Old w' b := Nat.lt_of_lt_of_le h hc.size
theorem ne_size1 {w : World} {k : Nat} (h : Old w k) : (w.heap.size = k) = False := by have := h.lt; simp; omega
theorem ne_size2 {w : World} {k : Nat} (h : Old w k) : (k = w.heap.size) = False := by have := h.lt; simp; omega
theorem ne_size3 {w : World} {k m : Nat} (h : Old w k) : (w.heap.size + m = k) = False := by have := h.lt; simp; omega
theorem ne_size4 {w : World} {k m : Nat} (h : Old w k) : (k = w.heap.size + m) = False := by have := h.lt; simp; omega
theorem Below.chg {B : Nat} {w w' : World} (h : Below B w w') (hB : w.heap.size ≤ B) : Chg [] w w' := ⟨h.os, h.tape, h.output, h.size, fun k hk _ => h.block k (by omega)⟩
theorem Chg.below {l : List Nat} {B : Nat} {w w' : World} (h : Chg l w w') (hB : B ≤ w.heap.size) (hl : ∀ x ∈ l, B ≤ x) : Below B w w' :=
  ⟨h.os, h.tape, h.output, h.size, fun k hk => h.block k (by omega) (fun hm => by have := hl k hm; omega)⟩

/-! ### Builtins, closed to the walk but for the laws that are laid -/
def appS (t ty : TypeId) (args : Array Value) : Sem Value := Builtin.append_ #[t, t] ty args
def appR (P : Program) (t ty : TypeId) (args : Array Value) (w : World) : Result Value := (Builtin.append_ #[t, t] ty args).run P w
theorem append_appS (t ty : TypeId) (args : Array Value) : Builtin.append_ #[t, t] ty args = appS t ty args := rfl
theorem run_appS (P : Program) (t ty : TypeId) (args : Array Value) (w : World) : (appS t ty args).run P w = appR P t ty args w := rfl
def copS (t u ty : TypeId) (args : Array Value) : Sem Value := Builtin.copy_ #[t, u] ty args
def copR (P : Program) (t u ty : TypeId) (args : Array Value) (w : World) : Result Value := (Builtin.copy_ #[t, u] ty args).run P w
theorem copy_copS (t u ty : TypeId) (args : Array Value) : Builtin.copy_ #[t, u] ty args = copS t u ty args := rfl
theorem run_copS (P : Program) (t u ty : TypeId) (args : Array Value) (w : World) : (copS t u ty args).run P w = copR P t u ty args w := rfl
def clrS (t ty : TypeId) (args : Array Value) : Sem Value := Builtin.clear_ #[t] ty args
def clrR (P : Program) (t ty : TypeId) (args : Array Value) (w : World) : Result Value := (Builtin.clear_ #[t] ty args).run P w
theorem clear_clrS (t ty : TypeId) (args : Array Value) : Builtin.clear_ #[t] ty args = clrS t ty args := rfl
theorem run_clrS (P : Program) (t ty : TypeId) (args : Array Value) (w : World) : (clrS t ty args).run P w = clrR P t ty args w := rfl
def mkS (t : TypeId) (l c : Value) : Sem Value := Instr.makeSlice t l c
def mkR (P : Program) (t : TypeId) (l c : Value) (w : World) : Result Value := (Instr.makeSlice t l c).run P w
theorem make_mkS (t : TypeId) (l c : Value) : Instr.makeSlice t l c = mkS t l c := rfl
theorem run_mkS (P : Program) (t : TypeId) (l c : Value) (w : World) : (mkS t l c).run P w = mkR P t l c w := rfl
/-! ### Slices that are read; clone, copy, clear, make -/
/-- The cells of a slice of n elements of so many cells each. -/
def Sl (w : World) (size : Nat) (A : Option Addr) (n : Nat) (xs : List Value) : Prop :=
  xs.length = n * size ∧ (n = 0 ∨ ∃ b o c t f, A = some ⟨b, o, none⟩ ∧ w.heap[b]? = some (.cells c t f) ∧ (c.toList.drop o).take (n * size) = xs)
theorem Sl.chg {w w' : World} {size : Nat} {A : Option Addr} {n : Nat} {xs : List Value} {l : List Nat} (h : Sl w size A n xs) (hc : Chg l w w') (hA : ∀ a, A = some a → a.block ∉ l) : Sl w' size A n xs := by
  obtain ⟨h1, h2⟩ := h
  refine ⟨h1, h2.imp id ?_⟩
  rintro ⟨b, o, c, t, f, rfl, hb, hx⟩
  exact ⟨b, o, c, t, f, rfl, hc.keep hb (hA _ rfl), hx⟩
theorem Sl.cells {w : World} {size : Nat} {b o : Nat} {n : Nat} {xs : List Value} (h : Sl w size (some ⟨b, o, none⟩) n xs) : ∀ j v, xs[j]? = some v → w.cell? ((⟨b, o, none⟩ : Addr).add j) = some v := by
  intro j v hv
  obtain ⟨h1, h2⟩ := h
  rcases h2 with rfl | ⟨b', o', c, t, f, he, hb, hx⟩
  · simp at h1; subst h1; simp at hv
  · injection he with he; injection he with h3 h4; subst h3; subst h4
    rw [Addr.add_mid, cell_row, hb, rowCell_some]
    rw [← hx] at hv
    have hj := (List.getElem?_eq_some_iff.1 hv).1
    simp at hj
    rw [List.getElem?_take_of_lt (by omega), List.getElem?_drop] at hv
    simpa using hv
theorem Sl.addr {w : World} {size : Nat} {A : Option Addr} {n : Nat} {xs : List Value} (h : Sl w size A n xs) (h0 : 0 < n) : ∃ b o, A = some ⟨b, o, none⟩ := by
  rcases h.2 with h2 | ⟨b, o, c, t, f, he, _⟩
  · omega
  · exact ⟨b, o, he⟩
theorem Sl.of_bk {w : World} {b : Nat} {ty : TypeId} {f : Nat × Nat} {xs : List Int} {r : List Value} {n : Nat} (hb : w.heap[b]? = some (.cells (bk xs r) ty f)) (hl : xs.length = n * 8) : Sl w 8 (some ⟨b, 0, none⟩) n (xs.map (Value.int .u64)) :=
  ⟨by simpa using hl, .inr ⟨b, 0, _, ty, f, rfl, hb, by rw [List.drop_zero]; unfold bk; rw [List.toList_toArray, List.take_append_of_le_length (by simp; omega), List.take_of_length_le (by simp; omega)]⟩⟩

section
variable {P : Program} {t ty e : TypeId} {i : TypeInfo} {z : Value}
theorem run_firstCells_sl (w : World) (size n : Nat) (A : Option Addr) (m c : Nat) (xs : List Value) (h : Sl w size A n xs) : (Builtin.firstCells size n (.slice A m c)).run P w = .ok xs.toArray w := by
  rcases Nat.eq_zero_or_pos n with h0 | h0
  · subst h0
    have : xs = [] := List.eq_nil_of_length_eq_zero (by simpa using h.1)
    subst this
    cases A with
    | none => rfl
    | some a => simp [Builtin.firstCells, loadCells, loadCellsFrom]
  · obtain ⟨b, o, rfl⟩ := h.addr h0
    exact run_firstCells_some (P := P) w size n ⟨b, o, none⟩ m c xs h.1 h.cells
/-- 'append([]T{}, x...)' where x has an element. -/
theorem run_clone (ht : P.underlying t = some (.slice e)) (hi : P.info? e = some i) (hz : i.zero = some z) (w : World) (e0 : Addr) (A : Option Addr) (n c : Nat) (xs : List Value) (h : Sl w i.size A n xs) (h0 : 0 < n) (h63 : n ≤ maxLen) (hb : n * i.bytes ≤ 140737488355328) :
    appR P t ty #[.slice (some e0) 0 0, .slice A n c] w =
      .ok (.slice (some ⟨w.heap.size, 0, none⟩) n (grownCap w n 0 e)) (w.drew.alloc (.cells (xs ++ (Builtin.zeroCells z.cells (grownCap w n 0 e - n)).toList).toArray e)) := by
  obtain ⟨b, o, rfl⟩ := h.addr h0
  have := run_append_grow (P := P) w t ty e i z ht hi hz e0 0 0 [] (by simp) (by simp) ⟨b, o, none⟩ n c xs h.1 h.cells (by omega) (by simp only [maxLen] at h63; omega) (growslice_fits (by omega) (by rw [Nat.zero_add]; omega))
  simp only [Nat.zero_add] at this
  unfold appR
  rw [this]
  congr 3
  simp
theorem run_clone0 (ht : P.underlying t = some (.slice e)) (hi : P.info? e = some i) (w : World) (e0 : Addr) (A : Option Addr) (c : Nat) : appR P t ty #[.slice (some e0) 0 0, .slice A 0 c] w = .ok (.slice (some e0) 0 0) w := by
  have := run_firstCells_sl (P := P) w i.size 0 A 0 c [] ⟨by simp, .inl rfl⟩
  simp [appR, Builtin.append_, run_underlying ht, sizeOf, typeInfo, hi, Builtin.lenOf, this, storeCells]
/-- 'clear(s)'. -/
theorem run_clear_row (ht : P.underlying t = some (.slice e)) (hv : ∀ w, (zeroValue e).run P w = .ok z w) (h1 : ∀ v ∈ z.cells, v.oneCell' = true) (w : World) (b n c : Nat) (h0 : 0 < n) (hb : rowHas (w.heap[b]?) 0 (n * z.cells.size) = true) :
    clrR P t ty #[.slice (some ⟨b, 0, none⟩) n c] w = .ok (.tuple #[]) (putRow w b 0 (Builtin.zeroCells z.cells n)) := by
  obtain ⟨m, rfl⟩ : ∃ m, n = m + 1 := ⟨n - 1, by omega⟩
  have hst := run_storeCells_cells (P := P) b 0 (Builtin.zeroCells z.cells (m + 1)).toList 0 w ?_ ?_ ?_
  · simp only [Nat.add_zero] at hst
    simp [clrR, Builtin.clear_, run_underlying ht, hv, hst, putRow]
  · intro j hj
    rw [Nat.add_zero, Nat.zero_add]
    have hj' : j < (m + 1) * z.cells.size := by simpa [size_zeroCells] using hj
    cases e : w.heap[b]? with
    | none => rw [e] at hb; cases hb
    | some x =>
      rw [e] at hb
      cases x with
      | cells c t f =>
        simp [rowHas] at hb
        have := hb.1.out
        rw [cell_row, e, rowCell_some]; simp; omega
      | _ => simp [rowHas] at hb
  · intro j hj
    rw [Nat.add_zero, Nat.zero_add]
    cases e : w.heap[b]? with
    | none => rw [e] at hb; cases hb
    | some x =>
      rw [e] at hb
      cases x with
      | cells c t f =>
        simp [rowHas] at hb
        obtain ⟨hb, rfl⟩ := hb
        rw [frozen_row, e, rowFrozen_some]
      | _ => simp [rowHas] at hb
  · intro v hv'
    simp only [Builtin.zeroCells, Array.toList_map, List.mem_map] at hv'
    obtain ⟨k, hk, rfl⟩ := hv'
    have hk' : k < (m + 1) * z.cells.size := by simpa using hk
    have hz0 : 0 < z.cells.size := by
      rcases Nat.eq_zero_or_pos z.cells.size with h | h
      · rw [h] at hk'; omega
      · exact h
    have hlt := Nat.mod_lt k hz0
    rw [getElem!_pos z.cells (k % z.cells.size) hlt]
    exact h1 _ (Array.getElem_mem hlt)
end
/-- Numbers 0. -/
theorem zeros_made (n : Nat) : Builtin.zeroCells (vs [0, 0, 0, 0, 0, 0, 0, 0]) n = vs (List.replicate (n * 8) 0) := by
  apply Array.ext
  · simp [Builtin.zeroCells, vs]
  · intro k h1 h2
    have hk : k < n * 8 := by simpa [vs] using h2
    have h8 : k % 8 = 0 ∨ k % 8 = 1 ∨ k % 8 = 2 ∨ k % 8 = 3 ∨ k % 8 = 4 ∨ k % 8 = 5 ∨ k % 8 = 6 ∨ k % 8 = 7 := by omega
    have hr : (vs (List.replicate (n * 8) 0))[k] = .int .u64 0 := by simp [vs]
    rw [hr]
    simp only [Builtin.zeroCells, Array.getElem_map, Array.getElem_range]
    have e8 : (vs [0, 0, 0, 0, 0, 0, 0, 0]).size = 8 := rfl
    rw [e8]
    rcases h8 with h | h | h | h | h | h | h | h <;> rw [h] <;> rfl
theorem made_made (n : Nat) : madeCells (vs [0, 0, 0, 0, 0, 0, 0, 0]) (n * 8) = bk (List.replicate (n * 8) 0) [] := by
  rw [← bk_vs, ← zeros_made]; rfl
theorem lit8 (a0 a1 a2 a3 a4 a5 a6 a7 : Int) : (#[.int .u64 a0, .int .u64 a1, .int .u64 a2, .int .u64 a3, .int .u64 a4, .int .u64 a5, .int .u64 a6, .int .u64 a7] : Array Value) = vs [a0, a1, a2, a3, a4, a5, a6, a7] := rfl
/-- Element i of a slice. -/
theorem Sl.part {w : World} {size b o n : Nat} {xs : List Value} (h0 : 0 < size) (h : Sl w size (some ⟨b, o, none⟩) n xs) {i : Nat} (hi : i < n) :
    ∃ c t f, w.heap[b]? = some (.cells c t f) ∧ rowIn (some (.cells c t f)) (o + i * size) size = true ∧ rowPart (some (.cells c t f)) (o + i * size) size = ((xs.drop (i * size)).take size).toArray := by
  obtain ⟨h1, h2⟩ := h
  rcases h2 with h2 | ⟨b', o', c, t, f, he, hb, hx⟩
  · omega
  · injection he with he; injection he with h3 h4; subst h3; subst h4
    have hle : (i + 1) * size ≤ n * size := Nat.mul_le_mul_right _ (by omega)
    rw [Nat.add_mul] at hle
    have hlen := congrArg List.length hx
    simp only [List.length_take, List.length_drop, Array.length_toList] at hlen
    refine ⟨c, t, f, hb, ?_, ?_⟩
    · rw [rowIn_some]
      exact decide_eq_true (show o + i * size + size ≤ c.size by omega)
    · rw [rowPart_some, ← hx, List.drop_take, List.take_take, List.drop_drop, Nat.min_eq_left (by omega)]
/-- Line i of a slice of lines. -/
theorem Sl.line {w : World} {b o n : Nat} {xs : List Int} (h : Sl w 8 (some ⟨b, o, none⟩) n (xs.map (Value.int .u64))) {i : Nat} (hi : i < n) :
    ∃ c t f, w.heap[b]? = some (.cells c t f) ∧ rowIn (some (.cells c t f)) (o + i * 8) 8 = true ∧ rowPart (some (.cells c t f)) (o + i * 8) 8 = vs (ln xs i) ∧ (ln xs i).length = 8 := by
  obtain ⟨h1, h2⟩ := h
  rcases h2 with h2 | ⟨b', o', c, t, f, he, hb, hx⟩
  · omega
  · injection he with he; injection he with h3 h4; subst h3; subst h4
    have hl : xs.length = n * 8 := by simpa using h1
    have hlen := congrArg List.length hx
    simp only [List.length_take, List.length_drop, List.length_map, Array.length_toList] at hlen
    refine ⟨c, t, f, hb, ?_, ?_, ?_⟩
    · rw [rowIn_some]; exact decide_eq_true (show o + i * 8 + 8 ≤ c.size by omega)
    · rw [rowPart_some]
      unfold vs ln
      rw [List.map_take, List.map_drop, ← hx]
      rw [List.drop_take, List.take_take, List.drop_drop, Nat.min_eq_left (by omega)]
    · simp [ln]; omega
/-- The first lines forget. -/
def forget (xs : List Int) (v : Nat) : List Int := splice xs 0 (List.replicate (v * 8) 0)
theorem forget_length (xs : List Int) (v : Nat) (h : v * 8 ≤ xs.length) : (forget xs v).length = xs.length := by unfold forget; rw [length_splice]; simpa using h
theorem forget_zero (xs : List Int) : forget xs 0 = xs := by simp [forget, splice]
theorem forget_succ (xs : List Int) (v : Nat) (h : (v + 1) * 8 ≤ xs.length) : lnPut (forget xs v) v [0, 0, 0, 0, 0, 0, 0, 0] = forget xs (v + 1) := by
  unfold forget lnPut splice
  have e1 : (List.replicate (v * 8) (0 : Int)).length = v * 8 := by simp
  simp only [List.take_zero, List.nil_append, List.length_replicate, Nat.zero_add]
  rw [List.take_append_of_le_length (by simp), List.take_of_length_le (by simp)]
  rw [List.drop_append, List.drop_eq_nil_of_le (by simp), List.nil_append, List.drop_drop]
  have e2 : List.replicate ((v + 1) * 8) (0 : Int) = List.replicate (v * 8) 0 ++ [0, 0, 0, 0, 0, 0, 0, 0] := by
    rw [show (v + 1) * 8 = v * 8 + 8 by omega, ← List.replicate_append_replicate]; rfl
  rw [e2]
  congr 2
  simp
  omega
theorem rowPut_forget (xs : List Int) (v : Nat) (h : v * 8 ≤ xs.length) (r : List Value) (t : TypeId) (f : Nat × Nat) : rowPut (some (.cells (bk xs r) t f)) 0 (vs (List.replicate (v * 8) 0)) = some (.cells (bk (forget xs v) r) t f) := by
  have := rowPut_bk (xs := xs) (l := List.replicate (v * 8) 0) (i := 0) (by unfold Fit; simpa using h) r t f
  simpa [lnPut, forget] using this
theorem drop_take_splice {α : Type} (xs l : List α) (o p n : Nat) (h : p + n ≤ o) (ho : o ≤ xs.length) : ((splice xs o l).drop p).take n = (xs.drop p).take n := by
  unfold splice
  rw [List.append_assoc, List.drop_append_of_le_length (by simp; omega), List.take_append_of_le_length (by simp; omega), List.drop_take, List.take_take, Nat.min_eq_left (by omega)]
theorem drop_splice_past {α : Type} (xs l : List α) (o p : Nat) (h : o + l.length ≤ p) (ho : o + l.length ≤ xs.length) : (splice xs o l).drop p = xs.drop p := by
  unfold splice
  have e1 : (xs.take o ++ l).length = o + l.length := by simp; omega
  rw [List.drop_append, List.drop_eq_nil_of_le (by omega), List.nil_append, List.drop_drop, e1]
  congr 1; omega
theorem drop_splice_at {α : Type} (xs l : List α) (o : Nat) (ho : o + l.length ≤ xs.length) : ((splice xs o l).drop o).take l.length = l := by
  unfold splice
  rw [List.append_assoc, List.drop_append_of_le_length (by simp; omega), List.drop_eq_nil_of_le (by simp; omega), List.nil_append, List.take_append_of_le_length (Nat.le_refl _), List.take_of_length_le (Nat.le_refl _)]
theorem ln_forget_ge (xs : List Int) (v i : Nat) (h : v ≤ i) (hl : v * 8 ≤ xs.length) : ln (forget xs v) i = ln xs i := by
  unfold ln forget
  rw [drop_splice_past _ _ _ _ (by simp; omega) (by simp; omega)]
theorem ln_forget_lt (xs : List Int) (v i : Nat) (h : i < v) (hl : v * 8 ≤ xs.length) : ln (forget xs v) i = [0, 0, 0, 0, 0, 0, 0, 0] := by
  unfold ln forget splice
  simp only [List.take_zero, List.nil_append]
  rw [List.drop_append_of_le_length (by simp; omega), List.drop_replicate, List.take_append_of_le_length (by simp; omega), List.take_replicate, Nat.min_eq_left (by omega)]
  rfl
theorem ln_put_same (xs l : List Int) (i : Nat) (h : Fit (i * 8) 8 xs.length) (hl : l.length = 8) : ln (lnPut xs i l) i = l := by
  have := h.out
  unfold ln lnPut
  rw [← hl]
  have e := drop_splice_at xs l (i * 8) (by omega)
  rw [hl] at e ⊢
  exact e
theorem ln_put_other (xs l : List Int) (i j : Nat) (h : Fit (i * 8) 8 xs.length) (hl : l.length = 8) (hij : i ≠ j) : ln (lnPut xs i l) j = ln xs j := by
  have := h.out
  unfold ln lnPut
  rcases Nat.lt_or_gt_of_ne hij with h1 | h1
  · rw [drop_splice_past _ _ _ _ (by omega) (by omega)]
  · exact drop_take_splice _ _ _ _ _ (by omega) (by omega)
/-- Two slices of lines with the same numbers. -/
theorem bk_one (xs : List Int) : ∀ v ∈ xs.map (Value.int .u64), v.oneCell' = true := by simp [Value.oneCell']
end Go.Proofs.Ytnocekhgabgffaa
end
section
namespace Go.Proofs.Ytnocekhgabgffaa
open Go.RowKit
set_option linter.unusedVariables false

/-! ### Elements one behind the other -/
section
variable {α : Type} {enc : α → List Value} {k : Nat}
/-- The cells of elements. -/
def cat (enc : α → List Value) (xs : List α) : List Value := (xs.map enc).flatten
theorem cat_cons (x : α) (xs : List α) : cat enc (x :: xs) = enc x ++ cat enc xs := by simp [cat]
theorem cat_append (xs ys : List α) : cat enc (xs ++ ys) = cat enc xs ++ cat enc ys := by simp [cat]
theorem cat_one (x : α) : cat enc [x] = enc x := by simp [cat]
theorem cat_length (hk : ∀ a, (enc a).length = k) : ∀ xs : List α, (cat enc xs).length = xs.length * k
  | [] => by simp [cat]
  | x :: xs => by rw [cat_cons, List.length_append, cat_length hk xs, hk, List.length_cons, Nat.add_mul]; omega
theorem cat_take (hk : ∀ a, (enc a).length = k) : ∀ (xs : List α) (i : Nat), (cat enc xs).take (i * k) = cat enc (xs.take i)
  | [], i => by simp [cat]
  | x :: xs, 0 => by simp [cat]
  | x :: xs, i + 1 => by
    rw [cat_cons, List.take_succ_cons, cat_cons, ← cat_take hk xs i, List.take_append, List.take_of_length_le (by rw [hk, Nat.add_mul]; omega), hk]
    congr 2
    rw [Nat.add_mul]; omega
theorem cat_drop (hk : ∀ a, (enc a).length = k) : ∀ (xs : List α) (i : Nat), (cat enc xs).drop (i * k) = cat enc (xs.drop i)
  | [], i => by simp [cat]
  | x :: xs, 0 => by simp [cat]
  | x :: xs, i + 1 => by
    rw [cat_cons, List.drop_succ_cons, ← cat_drop hk xs i, List.drop_append, List.drop_eq_nil_of_le (by rw [hk, Nat.add_mul]; omega), hk, List.nil_append]
    congr 1
    rw [Nat.add_mul]; omega
theorem cat_part (hk : ∀ a, (enc a).length = k) {xs : List α} {i : Nat} {a : α} (h : xs[i]? = some a) : ((cat enc xs).drop (i * k)).take k = enc a := by
  obtain ⟨hi, rfl⟩ := List.getElem?_eq_some_iff.1 h
  rw [cat_drop hk, List.drop_eq_getElem_cons hi, cat_cons, List.take_append_of_le_length (by rw [hk]; omega), List.take_of_length_le (by rw [hk]; omega)]
theorem cat_one_cell (h1 : ∀ a, ∀ v ∈ enc a, v.oneCell' = true) (xs : List α) : ∀ v ∈ cat enc xs, v.oneCell' = true := by
  intro v hv
  simp only [cat, List.mem_flatten, List.mem_map] at hv
  obtain ⟨l, ⟨a, _, rfl⟩, hv⟩ := hv
  exact h1 a v hv
/-- A block's cells: elements, then others. -/
def sq (enc : α → List Value) (xs : List α) (r : List Value) : Array Value := (cat enc xs ++ r).toArray
theorem sq_size (hk : ∀ a, (enc a).length = k) (xs : List α) (r : List Value) : (sq enc xs r).size = xs.length * k + r.length := by simp [sq, cat_length hk]
theorem sq_toList (xs : List α) (r : List Value) : (sq enc xs r).toList = cat enc xs ++ r := by simp [sq]
theorem mul_lt_of {i n k : Nat} (h : i < n) : i * k + k ≤ n * k := by rw [← Nat.succ_mul]; exact Nat.mul_le_mul_right _ h
/-- Some cells of element i. -/
theorem rowPart_sq (hk : ∀ a, (enc a).length = k) {xs : List α} {i : Nat} {a : α} (h : xs[i]? = some a) (r : List Value) (t : TypeId) (f : Nat × Nat) (o n : Nat) (hn : o + n ≤ k) :
    rowPart (some (.cells (sq enc xs r) t f)) (i * k + o) n = ((enc a).drop o |>.take n).toArray := by
  have hi := (List.getElem?_eq_some_iff.1 h).1
  have hl := cat_length hk xs
  have hm := mul_lt_of (k := k) hi
  rw [rowPart_some, sq_toList, ← List.drop_drop, List.drop_append_of_le_length (by rw [hl]; omega), List.drop_append_of_le_length (by rw [List.length_drop, hl]; omega), List.take_append_of_le_length (by rw [List.length_drop, List.length_drop, hl]; omega)]
  rw [← cat_part hk h, List.drop_take, List.take_take, Nat.min_eq_left (by omega)]
theorem rowIn_sq (hk : ∀ a, (enc a).length = k) {xs : List α} {i : Nat} (hi : i < xs.length) (r : List Value) (t : TypeId) (f : Nat × Nat) (o n : Nat) (hn : o + n ≤ k) :
    rowIn (some (.cells (sq enc xs r) t f)) (i * k + o) n = true := by
  have hm := mul_lt_of (k := k) hi
  rw [rowIn_some, sq_size hk]
  exact decide_eq_true (show _ ≤ _ by omega)
theorem sq_cell (hk : ∀ a, (enc a).length = k) {xs : List α} {i : Nat} {a : α} (h : xs[i]? = some a) (r : List Value) (o : Nat) (ho : o < k) : (sq enc xs r)[i * k + o]? = (enc a)[o]? := by
  have hi := (List.getElem?_eq_some_iff.1 h).1
  have hl := cat_length hk xs
  have hm := mul_lt_of (k := k) hi
  rw [← cat_part hk h]
  unfold sq
  rw [List.getElem?_toArray, List.getElem?_append_left (by rw [hl]; omega), List.getElem?_take_of_lt ho, List.getElem?_drop]
end

/-- A kind of elements, as the program has it. -/
structure Elt {α : Type} (P : Program) (t e : TypeId) (k bytes : Nat) (z : Value) (enc : α → List Value) : Prop where
  slice : P.underlying t = some (.slice e)
  info : (P.info? e).map (fun i => (i.zero, i.size, i.bytes)) = some (some z, k, bytes)
  zero : z.cells.size = k
  zone : ∀ v ∈ z.cells, v.oneCell' = true
  pos : 0 < k
  len : ∀ a, (enc a).length = k
  one : ∀ a, ∀ v ∈ enc a, v.oneCell' = true

/-! ### A variable that is a slice of its own block be, at its head (be is q where there is none yet) -/
section
variable {α : Type} {enc : α → List Value} {k bytes : Nat} {P : Program} {t ty e : TypeId} {z : Value}
def Vec (k : Nat) (e : TypeId) (enc : α → List Value) (w : World) (q be : Nat) (A : Option Addr) (cap : Nat) (xs : List α) : Prop :=
  (be = q ∧ A = none ∧ cap = 0 ∧ xs = []) ∨ (be ≠ q ∧ A = some ⟨be, 0, none⟩ ∧ xs.length ≤ cap ∧ ∃ r : List Value, w.heap[be]? = some (.cells (sq enc xs r) e (0, 0)) ∧ xs.length * k + r.length = cap * k)
theorem Vec.nil (k : Nat) (e : TypeId) (enc : α → List Value) (w : World) (q : Nat) : Vec k e enc w q q none 0 ([] : List α) := .inl ⟨rfl, rfl, rfl, rfl⟩
theorem Vec.le {w : World} {q be : Nat} {A : Option Addr} {cap : Nat} {xs : List α} (h : Vec k e enc w q be A cap xs) : xs.length ≤ cap := by
  rcases h with ⟨_, _, rfl, rfl⟩ | ⟨_, _, h, _⟩
  · simp
  · exact h
theorem Vec.keep {w w' : World} {q be : Nat} {A : Option Addr} {cap : Nat} {xs : List α} {l : List Nat} (h : Vec k e enc w q be A cap xs) (hc : Chg l w w') (hb : be ∉ l) : Vec k e enc w' q be A cap xs :=
  h.imp id fun ⟨h1, h2, h3, r, h4, h5⟩ => ⟨h1, h2, h3, r, hc.keep h4 hb, h5⟩
theorem Vec.old {w : World} {q be : Nat} {A : Option Addr} {cap : Nat} {xs : List α} (h : Vec k e enc w q be A cap xs) (hq : Old w q) : Old w be := by
  rcases h with ⟨rfl, _⟩ | ⟨_, _, _, r, h4, _⟩
  · exact hq
  · exact Go.Proofs.Ytnocekhgabgffaa.old h4
theorem Vec.sl (hk : ∀ a, (enc a).length = k) {w : World} {q be : Nat} {A : Option Addr} {cap : Nat} {xs : List α} (h : Vec k e enc w q be A cap xs) : Sl w k A xs.length (cat enc xs) := by
  refine ⟨cat_length hk xs, ?_⟩
  rcases h with ⟨_, _, _, rfl⟩ | ⟨_, rfl, _, r, h4, _⟩
  · exact .inl rfl
  · exact .inr ⟨be, 0, _, e, (0, 0), rfl, h4, by rw [sq_toList, List.drop_zero, List.take_append_of_le_length (by rw [cat_length hk]; exact Nat.le_refl _), List.take_of_length_le (by rw [cat_length hk]; exact Nat.le_refl _)]⟩
/-- Elements appended: none, into the room that there is, into a new block. -/
theorem Vec.app (E : Elt P t e k bytes z enc) {w : World} {q be : Nat} {A : Option Addr} {cap : Nat} {xs : List α} (hv : Vec k e enc w q be A cap xs) (hq : Old w q)
    {B : Option Addr} {m c : Nat} {ys : List α} (hs : Sl w k B m (cat enc ys)) (hm : ys.length = m) (hB : (xs.length + m) * bytes ≤ 140737488355328) (h63 : xs.length + m ≤ maxLen) :
    ∃ (be' cap' : Nat) (A' : Option Addr) (w' : World), appR P t ty #[.slice A xs.length cap, .slice B m c] w = .ok (.slice A' (xs.length + m) cap') w' ∧ Vec k e enc w' q be' A' cap' (xs ++ ys) ∧ (be' = be ∨ w.heap.size ≤ be') ∧ Chg [be] w w' ∧ w'.heap[q]? = w.heap[q]? := by
  obtain ⟨i0, hi0, hz0, hz1, hz2⟩ := info_parts E.info
  subst hz1
  subst hz2
  have h63' : xs.length + m ≤ 9223372036854775807 := by simp only [maxLen] at h63; omega
  rcases Nat.eq_zero_or_pos m with h0 | h0
  · subst h0
    obtain rfl : ys = [] := List.eq_nil_of_length_eq_zero hm
    have hfc := run_firstCells_sl (P := P) w i0.size 0 B 0 c [] ⟨by simp, .inl rfl⟩
    refine ⟨be, cap, A, w, ?_, by simpa using hv, .inl rfl, Chg.refl _ _, rfl⟩
    have hle := hv.le
    unfold appR
    cases A with
    | none => simp [Builtin.append_, run_underlying E.slice, sizeOf, typeInfo, hi0, Builtin.lenOf, hfc, hle]
    | some a => simp [Builtin.append_, run_underlying E.slice, sizeOf, typeInfo, hi0, Builtin.lenOf, hfc, hle, storeCells]
  · obtain ⟨b, o, rfl⟩ := hs.addr h0
    have hcells : ∀ j v, (cat enc ys)[j]? = some v → w.cell? ((⟨b, o, none⟩ : Addr).add j) = some v := hs.cells
    have hlen : (cat enc ys).length = m * i0.size := hs.1
    rcases hv with ⟨rfl, rfl, rfl, rfl⟩ | ⟨hne, rfl, hle, r, hb, hr⟩
    · have := run_append_nil (P := P) w t ty e i0 z E.slice hi0 hz0 ⟨b, o, none⟩ m c (cat enc ys) hlen hcells h0 (by rw [List.length_nil, Nat.zero_add] at h63'; omega) (by rw [List.length_nil, Nat.zero_add] at hB; omega)
      have hge := grownCap_ge w m 0 e
      refine ⟨w.heap.size, grownCap w m 0 e, some ⟨w.heap.size, 0, none⟩, _, by simpa [appR] using this, ?_, .inr (Nat.le_refl _), (Chg.refl _ _).drew.alloc _, ?_⟩
      · refine .inr ⟨by have := hq.lt; omega, rfl, by simp [hm]; exact hge, (Builtin.zeroCells z.cells (grownCap w m 0 e - m)).toList, ?_, ?_⟩
        · rw [heap_alloc]
          have h2 : w.drew.heap[w.heap.size]? = none := Array.getElem?_eq_none (Nat.le_refl _)
          have h3 : w.heap.size = w.drew.heap.size := rfl
          rw [h2, if_pos h3]
          simp [sq]
        · simp only [List.nil_append, hm, Array.length_toList, size_zeroCells, E.zero]
          rw [← Nat.add_mul]; congr 1; omega
      · rw [heap_alloc, heap_drew, if_neg (by have h1 := hq.lt; have h2 : w.drew.heap.size = w.heap.size := rfl; omega), Option.or_none]
    · by_cases hroom : xs.length + m ≤ cap
      · have hmul : (xs.length + m) * i0.size ≤ cap * i0.size := Nat.mul_le_mul_right _ hroom
        rw [Nat.add_mul] at hmul
        have hsz : (sq enc xs r).size = xs.length * i0.size + r.length := sq_size E.len xs r
        have hrow : rowHas (w.heap[be]?) (xs.length * i0.size) (cat enc ys).length = true := by
          rw [hb, rowHas_some, hsz, hlen]
          exact decide_eq_true (show _ ≤ _ by omega)
        have hr2 := run_append_room_cells (P := P) w t ty e i0 E.slice hi0 be 0 xs.length cap ⟨b, o, none⟩ m c (cat enc ys) hlen hcells (cat_one_cell E.one ys) hroom
          (by intro j hj; rw [Nat.zero_add, cell_row, hb, rowCell_some]; simp; rw [hsz]; omega)
          (by intro j hj; rw [Nat.zero_add, frozen_row, hb, rowFrozen_some])
        rw [Nat.zero_add] at hr2
        refine ⟨be, cap, _, _, hr2, .inr ⟨hne, rfl, by simp [hm, hroom], r.drop (m * i0.size), ?_, ?_⟩, .inl rfl, Chg.setCells be (.inl (by simp)) _ _ _ (Chg.refl _ _), ?_⟩
        · rw [heap_setCells _ _ _ _ _ hrow, if_pos rfl, hb, rowPut_some, sq_toList]
          congr 2
          unfold sq splice
          rw [List.toList_toArray, List.take_append_of_le_length (by rw [cat_length E.len]; exact Nat.le_refl _), List.take_of_length_le (by rw [cat_length E.len]; exact Nat.le_refl _), cat_append, hlen, List.drop_append, cat_length E.len, List.drop_eq_nil_of_le (by rw [cat_length E.len]; omega), List.nil_append]
          congr 3
          omega
        · simp only [List.length_append, hm, List.length_drop]
          rw [Nat.add_mul]; omega
        · rw [heap_setCells _ _ _ _ _ hrow, if_neg (Ne.symm hne)]
      · have holds : ∀ j v, (cat enc xs)[j]? = some v → w.cell? ((⟨be, 0, none⟩ : Addr).add j) = some v := by
          intro j v hv
          have hj := (List.getElem?_eq_some_iff.1 hv).1
          rw [Addr.add_mid, cell_row, hb, rowCell_some]
          unfold sq
          rw [List.getElem?_toArray, Nat.zero_add, List.getElem?_append_left hj]
          exact hv
        have hgr := run_append_grow (P := P) w t ty e i0 z E.slice hi0 hz0 ⟨be, 0, none⟩ xs.length cap (cat enc xs) (cat_length E.len xs) holds ⟨b, o, none⟩ m c (cat enc ys) hlen hcells (by omega) (by omega) (growslice_fits (by omega) hB)
        have hge := grownCap_ge w (xs.length + m) cap e
        refine ⟨w.heap.size, grownCap w (xs.length + m) cap e, _, _, hgr, ?_, .inr (Nat.le_refl _), (Chg.refl _ _).drew.alloc _, ?_⟩
        · refine .inr ⟨by have := hq.lt; omega, rfl, by simp [hm]; exact hge, (Builtin.zeroCells z.cells (grownCap w (xs.length + m) cap e - (xs.length + m))).toList, ?_, ?_⟩
          · rw [heap_alloc]
            have h2 : w.drew.heap[w.heap.size]? = none := Array.getElem?_eq_none (Nat.le_refl _)
            have h3 : w.heap.size = w.drew.heap.size := rfl
            rw [h2, if_pos h3]
            simp [sq, cat_append]
          · simp only [List.length_append, hm, Array.length_toList, size_zeroCells, E.zero]
            rw [← Nat.add_mul]; congr 1; omega
        · rw [heap_alloc, heap_drew, if_neg (by have h1 := hq.lt; have h2 : w.drew.heap.size = w.heap.size := rfl; omega), Option.or_none]

theorem Chg.less {q : Nat} {w w' : World} (h : Chg [q] w w') (hq : w'.heap[q]? = w.heap[q]?) : Chg [] w w' :=
  ⟨h.os, h.tape, h.output, h.size, fun j hj _ => by
    by_cases e : j = q
    · rw [e, hq]
    · exact h.block j hj (by simpa using e)⟩
/-- 'copy(d, x)' where d has no fewer elements than x. -/
theorem run_copy_sl {t' : TypeId} {i : TypeInfo} (ht : P.underlying t = some (.slice e)) (hi : P.info? e = some i) (w : World) (b o : Nat) (A : Option Addr) (n c m d : Nat) (xs : List Value) (h : Sl w i.size A n xs) (hn : n ≤ m) (h1 : ∀ v ∈ xs, v.oneCell' = true) (hb : rowHas (w.heap[b]?) o xs.length = true) :
    copR P t t' ty #[.slice (some ⟨b, o, none⟩) m d, .slice A n c] w = .ok (goInt n) (putRow w b o xs.toArray) := by
  have hf := run_firstCells_sl (P := P) w i.size n A n c xs h
  have hst := run_storeCells_cells (P := P) b o xs 0 w ?_ ?_ h1
  · simp only [Nat.add_zero] at hst
    have hmin : Nat.min n m = n := Nat.min_eq_left hn
    simp [copR, Builtin.copy_, run_underlying ht, Builtin.lenOf, sizeOf, typeInfo, hi, hf, hst, putRow, hmin]
  all_goals
    intro j hj
    rw [Nat.add_zero]
    cases e : w.heap[b]? with
    | none => rw [e] at hb; cases hb
    | some x =>
      rw [e] at hb
      cases x with
      | cells c t f =>
        simp [rowHas] at hb
        obtain ⟨hb, rfl⟩ := hb
        have := hb.out
        first
          | (rw [cell_row, e, rowCell_some]; simp; omega)
          | (rw [frozen_row, e, rowFrozen_some])
      | _ => simp [rowHas] at hb
end
/-! ### A value of many cells put into a row of cells, as the walk spells it -/
theorem fold_put_list {o : Nat} : ∀ (l : List Value) (C : Array Value) (j : Nat), o + j + l.length ≤ C.size → (l.zipIdx j).foldl (fun cs y => cs.setIfInBounds (o + y.snd) y.fst) C = (splice C.toList (o + j) l).toArray
  | [], C, j, _ => by simp [splice]
  | v :: l, C, j, h => by
    simp only [List.length_cons] at h
    rw [List.zipIdx_cons, List.foldl_cons, fold_put_list l _ (j + 1) (by simp; omega), Array.toList_setIfInBounds, ← Nat.add_assoc, splice_cons _ _ _ _ (by simp; omega)]
theorem fold_put (C v : Array Value) (o n : Nat) (hv : v.size = n) (h : o + n ≤ C.size) : Array.foldl (fun cs y => cs.setIfInBounds (o + y.snd) y.fst) C v.zipIdx 0 n = (splice C.toList o v.toList).toArray := by
  have e : n = v.zipIdx.size := by simp [hv]
  subst e
  rw [← Array.foldl_toList, Array.toList_zipIdx]
  have := fold_put_list (o := o) v.toList C 0 (by simpa using h)
  simpa using this
theorem fold_all (C v : Array Value) (n : Nat) (hv : v.size = n) (h : C.size = n) : Array.foldl (fun cs y => cs.setIfInBounds y.snd y.fst) C v.zipIdx 0 n = v := by
  have := fold_put C v 0 n hv (by omega)
  simp only [Nat.zero_add] at this
  rw [this, splice_all _ _ (by simp; omega), Array.toArray_toList]
/-- Element i of a slice of one-cell elements. -/
theorem Sl.cell {w : World} {b o n : Nat} {xs : List Value} (h : Sl w 1 (some ⟨b, o, none⟩) n xs) {i : Nat} (hi : i < n) :
    ∃ c t f, w.heap[b]? = some (.cells c t f) ∧ c[o + i]? = xs[i]? := by
  obtain ⟨h1, h2⟩ := h
  rcases h2 with h2 | ⟨b', o', c, t, f, he, hb, hx⟩
  · omega
  · injection he with he; injection he with h3 h4; subst h3; subst h4
    refine ⟨c, t, f, hb, ?_⟩
    rw [← hx, Nat.mul_one, List.getElem?_take_of_lt hi, List.getElem?_drop, Array.getElem?_toList]
/-- Element i of a slice, cell by cell and piece by piece. -/
theorem Sl.elem {w : World} {size b o n : Nat} {xs ys : List Value} (h0 : 0 < size) (h : Sl w size (some ⟨b, o, none⟩) n xs) {i : Nat} (hi : i < n) (hy : (xs.drop (i * size)).take size = ys) :
    ∃ c t f, w.heap[b]? = some (.cells c t f) ∧ (∀ d, d < size → c[o + i * size + d]? = ys[d]?) ∧ ∀ d m, d + m ≤ size → rowIn (some (.cells c t f)) (o + i * size + d) m = true ∧ rowPart (some (.cells c t f)) (o + i * size + d) m = ((ys.drop d).take m).toArray := by
  obtain ⟨h1, h2⟩ := h
  rcases h2 with h2 | ⟨b', o', c, t, f, he, hb, hx⟩
  · omega
  · injection he with he; injection he with h3 h4; subst h3; subst h4; subst hy
    have hle : (i + 1) * size ≤ n * size := Nat.mul_le_mul_right _ (by omega)
    rw [Nat.add_mul] at hle
    have hlen := congrArg List.length hx
    simp only [List.length_take, List.length_drop, Array.length_toList] at hlen
    refine ⟨c, t, f, hb, fun d hd => ?_, fun d m hdm => ⟨?_, ?_⟩⟩
    · rw [← hx, List.getElem?_take_of_lt hd, List.getElem?_drop, List.getElem?_take_of_lt (by omega), List.getElem?_drop, Array.getElem?_toList]
      congr 1; omega
    · rw [rowIn_some]
      exact decide_eq_true (show o + i * size + d + m ≤ c.size by omega)
    · rw [rowPart_some, ← hx]
      simp only [List.drop_take, List.take_take, List.drop_drop]
      have e1 : min m (min (size - d) (n * size - i * size - d)) = m := by omega
      have e2 : min (min m (size - d)) (n * size - i * size - d) = m := by omega
      first
        | rw [e1]
        | rw [e2]
        | skip
      congr 2
      all_goals (try omega)
end Go.Proofs.Ytnocekhgabgffaa
end
section
namespace Go.Proofs.Ytnocekhgabgffaa
open Go.RowKit
set_option linter.unusedVariables false
section
variable {α : Type} {enc : α → List Value} {k bytes : Nat} {P : Program} {t ty e : TypeId} {z : Value}
/-- A block's cells: some that are gone, elements, then others. -/
def sqo (enc : α → List Value) (p : List Value) (xs : List α) (r : List Value) : Array Value := (p ++ (cat enc xs ++ r)).toArray
theorem sqo_size (hk : ∀ a, (enc a).length = k) (p : List Value) (xs : List α) (r : List Value) : (sqo enc p xs r).size = p.length + xs.length * k + r.length := by simp [sqo, cat_length hk]; omega
theorem sqo_toList (p : List Value) (xs : List α) (r : List Value) : (sqo enc p xs r).toList = p ++ (cat enc xs ++ r) := by simp [sqo]
/-- A variable that is a slice of its own block be, from some place on (be is q where there is none yet). -/
def Vof (k : Nat) (e : TypeId) (enc : α → List Value) (w : World) (q be : Nat) (A : Option Addr) (cap : Nat) (xs : List α) : Prop :=
  (be = q ∧ A = none ∧ cap = 0 ∧ xs = []) ∨ (be ≠ q ∧ xs.length ≤ cap ∧ ∃ (o : Nat) (p r : List Value), A = some ⟨be, o, none⟩ ∧ p.length = o ∧ w.heap[be]? = some (.cells (sqo enc p xs r) e (0, 0)) ∧ cap * k ≤ xs.length * k + r.length)
theorem Vof.nil (k : Nat) (e : TypeId) (enc : α → List Value) (w : World) (q : Nat) : Vof k e enc w q q none 0 ([] : List α) := .inl ⟨rfl, rfl, rfl, rfl⟩
section
variable {w w' : World} {q be : Nat} {A : Option Addr} {cap : Nat} {xs : List α}
theorem Vof.le (h : Vof k e enc w q be A cap xs) : xs.length ≤ cap := by
  rcases h with ⟨_, _, rfl, rfl⟩ | ⟨_, h, _⟩
  · simp
  · exact h
theorem Vof.keep {l : List Nat} (h : Vof k e enc w q be A cap xs) (hc : Chg l w w') (hb : be ∉ l) : Vof k e enc w' q be A cap xs :=
  h.imp id fun ⟨h1, h2, o, p, r, h3, h4, h5, h6⟩ => ⟨h1, h2, o, p, r, h3, h4, hc.keep h5 hb, h6⟩
theorem Vof.old (h : Vof k e enc w q be A cap xs) (hq : Old w q) : Old w be := by
  rcases h with ⟨rfl, _⟩ | ⟨_, _, o, p, r, _, _, h5, _⟩
  · exact hq
  · exact Go.Proofs.Ytnocekhgabgffaa.old h5
theorem Vof.sl (hk : ∀ a, (enc a).length = k) (h : Vof k e enc w q be A cap xs) : Sl w k A xs.length (cat enc xs) := by
  refine ⟨cat_length hk xs, ?_⟩
  rcases h with ⟨_, _, _, rfl⟩ | ⟨_, _, o, p, r, rfl, rfl, h5, _⟩
  · exact .inl rfl
  · refine .inr ⟨be, _, _, e, (0, 0), rfl, h5, ?_⟩
    rw [sqo_toList, List.drop_append_of_le_length (Nat.le_refl _), List.drop_eq_nil_of_le (Nat.le_refl _), List.nil_append, List.take_append_of_le_length (by rw [cat_length hk]; exact Nat.le_refl _), List.take_of_length_le (by rw [cat_length hk]; exact Nat.le_refl _)]
/-- The place behind the first element, as the program reckons it. -/
def behind (k : Nat) (A : Option Addr) (cap : Nat) : Option Addr := if cap = 1 then A else A.map (·.add (1 * k))
/-- Cut at the head. -/
theorem Vof.tail {x : α} {xs : List α} (hk : ∀ a, (enc a).length = k) (h : Vof k e enc w q be A cap (x :: xs)) : Vof k e enc w q be (behind k A cap) (cap - 1) xs := by
  rcases h with ⟨_, _, _, h⟩ | ⟨h1, h2, o, p, r, rfl, rfl, h5, h6⟩
  · cases h
  · simp only [List.length_cons] at h2 h6
    rw [Nat.add_mul] at h6
    have hm : (cap - 1) * k + 1 * k = cap * k := by rw [← Nat.add_mul]; congr 1; omega
    refine .inr ⟨h1, by omega, ?_⟩
    unfold behind
    split
    · rename_i h0
      have e0 : xs = [] := List.eq_nil_of_length_eq_zero (by omega)
      subst e0
      refine ⟨_, p, enc x ++ r, rfl, rfl, ?_, by rw [h0]; simp⟩
      rw [h5]
      simp [sqo, cat]
    · refine ⟨p.length + 1 * k, p ++ enc x, r, by rw [Option.map_some, Addr.add_mid], by simp [hk], ?_, by omega⟩
      rw [h5]
      simp [sqo, cat_cons]
/-- 'x[1:]', closed to the walk. -/
def slS (t : TypeId) (x : Value) (lo hi mx : Option Value) : Sem Value := Instr.slice t x lo hi mx
def slR (P : Program) (t : TypeId) (x : Value) (lo hi mx : Option Value) (w : World) : Result Value := (Instr.slice t x lo hi mx).run P w
theorem slice_slS (t : TypeId) (x : Value) (lo hi mx : Option Value) : Instr.slice t x lo hi mx = slS t x lo hi mx := rfl
theorem run_slS (P : Program) (t : TypeId) (x : Value) (lo hi mx : Option Value) (w : World) : (slS t x lo hi mx).run P w = slR P t x lo hi mx w := rfl
theorem slR_tail (E : Elt P t e k bytes z enc) (A : Option Addr) (n cap : Nat) (hc : n + 1 ≤ cap) (w : World) : slR P t (.slice A (n + 1) cap) (some (.int .i64 1)) none none w = .ok (.slice (behind k A cap) n (cap - 1)) w := by
  obtain ⟨i0, hi0, hz0, hz1, hz2⟩ := info_parts E.info
  subst hz1
  unfold slR behind
  have h1 : (0 : Int) ≤ 1 := by omega
  have h2 : (1 : Int) ≤ ((n + 1 : Nat) : Int) := by omega
  simp [Instr.slice, Instr.sliceBounds, Instr.sliceBound, asIntOf, run_underlying E.slice, sizeOf, typeInfo, hi0]
  intro h; omega
/-- The first element. -/
theorem Vof.first {x : α} {xs : List α} (hk : ∀ a, (enc a).length = k) (h : Vof k e enc w q be A cap (x :: xs)) :
    be ≠ q ∧ ∃ (o : Nat) (C : Array Value), A = some ⟨be, o, none⟩ ∧ w.heap[be]? = some (.cells C e (0, 0)) ∧ rowIn (some (.cells C e (0, 0))) o k = true ∧ rowPart (some (.cells C e (0, 0))) o k = (enc x).toArray := by
  rcases h with ⟨_, _, _, h⟩ | ⟨h1, h2, o, p, r, rfl, rfl, h5, h6⟩
  · cases h
  · refine ⟨h1, _, _, rfl, h5, ?_, ?_⟩
    · rw [rowIn_some, sqo_size hk]
      refine decide_eq_true (show _ ≤ _ from ?_)
      simp only [List.length_cons, Nat.add_mul]; omega
    · rw [rowPart_some, sqo_toList, List.drop_append_of_le_length (Nat.le_refl _), List.drop_eq_nil_of_le (Nat.le_refl _), List.nil_append, cat_cons, List.append_assoc, List.take_append_of_le_length (by rw [hk]; exact Nat.le_refl _), List.take_of_length_le (by rw [hk]; exact Nat.le_refl _)]
end
/-- Elements appended: none, into the room that there is, into a new block. -/
theorem Vof.app (E : Elt P t e k bytes z enc) {w : World} {q be : Nat} {A : Option Addr} {cap : Nat} {xs : List α} (hv : Vof k e enc w q be A cap xs) (hq : Old w q)
    {B : Option Addr} {m c : Nat} {ys : List α} (hs : Sl w k B m (cat enc ys)) (hm : ys.length = m) (hB : (xs.length + m) * bytes ≤ 140737488355328) (h63 : xs.length + m ≤ maxLen) :
    ∃ (be' cap' : Nat) (A' : Option Addr) (w' : World), appR P t ty #[.slice A xs.length cap, .slice B m c] w = .ok (.slice A' (xs.length + m) cap') w' ∧ Vof k e enc w' q be' A' cap' (xs ++ ys) ∧ (be' = be ∨ w.heap.size ≤ be') ∧ Chg [be] w w' ∧ w'.heap[q]? = w.heap[q]? := by
  obtain ⟨i0, hi0, hz0, hz1, hz2⟩ := info_parts E.info
  subst hz1
  subst hz2
  have h63' : xs.length + m ≤ 9223372036854775807 := by simp only [maxLen] at h63; omega
  rcases Nat.eq_zero_or_pos m with h0 | h0
  · subst h0
    obtain rfl : ys = [] := List.eq_nil_of_length_eq_zero hm
    have hfc := run_firstCells_sl (P := P) w i0.size 0 B 0 c [] ⟨by simp, .inl rfl⟩
    refine ⟨be, cap, A, w, ?_, by simpa using hv, .inl rfl, Chg.refl _ _, rfl⟩
    have hle := hv.le
    unfold appR
    cases A with
    | none => simp [Builtin.append_, run_underlying E.slice, sizeOf, typeInfo, hi0, Builtin.lenOf, hfc, hle]
    | some a => simp [Builtin.append_, run_underlying E.slice, sizeOf, typeInfo, hi0, Builtin.lenOf, hfc, hle, storeCells]
  · obtain ⟨b, o, rfl⟩ := hs.addr h0
    have hcells : ∀ j v, (cat enc ys)[j]? = some v → w.cell? ((⟨b, o, none⟩ : Addr).add j) = some v := hs.cells
    have hlen : (cat enc ys).length = m * i0.size := hs.1
    have holdS := hv.sl E.len
    rcases hv with ⟨rfl, rfl, rfl, rfl⟩ | ⟨hne, hle, o1, p, r, rfl, rfl, hb, hr⟩
    · have := run_append_nil (P := P) w t ty e i0 z E.slice hi0 hz0 ⟨b, o, none⟩ m c (cat enc ys) hlen hcells h0 (by rw [List.length_nil, Nat.zero_add] at h63'; omega) (by rw [List.length_nil, Nat.zero_add] at hB; omega)
      have hge := grownCap_ge w m 0 e
      refine ⟨w.heap.size, grownCap w m 0 e, some ⟨w.heap.size, 0, none⟩, _, by simpa [appR] using this, ?_, .inr (Nat.le_refl _), (Chg.refl _ _).drew.alloc _, ?_⟩
      · refine .inr ⟨by have := hq.lt; omega, by simp [hm]; exact hge, 0, [], (Builtin.zeroCells z.cells (grownCap w m 0 e - m)).toList, rfl, rfl, ?_, ?_⟩
        · rw [heap_alloc]
          have h2 : w.drew.heap[w.heap.size]? = none := Array.getElem?_eq_none (Nat.le_refl _)
          have h3 : w.heap.size = w.drew.heap.size := rfl
          rw [h2, if_pos h3]
          simp [sqo]
        · simp only [List.nil_append, hm, Array.length_toList, size_zeroCells, E.zero]
          rw [← Nat.add_mul]; apply Nat.mul_le_mul_right; omega
      · rw [heap_alloc, heap_drew, if_neg (by have h1 := hq.lt; have h2 : w.drew.heap.size = w.heap.size := rfl; omega), Option.or_none]
    · by_cases hroom : xs.length + m ≤ cap
      · have hmul : (xs.length + m) * i0.size ≤ cap * i0.size := Nat.mul_le_mul_right _ hroom
        rw [Nat.add_mul] at hmul
        have hsz : (sqo enc p xs r).size = p.length + xs.length * i0.size + r.length := sqo_size E.len p xs r
        have hrow : rowHas (w.heap[be]?) (p.length + xs.length * i0.size) (cat enc ys).length = true := by
          rw [hb, rowHas_some, hsz, hlen]
          exact decide_eq_true (show _ ≤ _ by omega)
        have hr2 := run_append_room_cells (P := P) w t ty e i0 E.slice hi0 be p.length xs.length cap ⟨b, o, none⟩ m c (cat enc ys) hlen hcells (cat_one_cell E.one ys) hroom
          (by intro j hj; rw [cell_row, hb, rowCell_some]; simp; rw [hsz]; omega)
          (by intro j hj; rw [frozen_row, hb, rowFrozen_some])
        refine ⟨be, cap, _, _, hr2, .inr ⟨hne, by simp [hm, hroom], p.length, p, r.drop (m * i0.size), rfl, rfl, ?_, ?_⟩, .inl rfl, Chg.setCells be (.inl (by simp)) _ _ _ (Chg.refl _ _), ?_⟩
        · rw [heap_setCells _ _ _ _ _ hrow, if_pos rfl, hb, rowPut_some, sqo_toList]
          congr 2
          unfold sqo splice
          congr 1
          have e1 : (cat enc xs).length = xs.length * i0.size := cat_length E.len xs
          have e2 : (p ++ (cat enc xs ++ r)).take (p.length + xs.length * i0.size) = p ++ cat enc xs := by
            rw [← List.append_assoc, List.take_append_of_le_length (by simp; omega), List.take_of_length_le (by simp; omega)]
          have e3 : (p ++ (cat enc xs ++ r)).drop (p.length + xs.length * i0.size + m * i0.size) = r.drop (m * i0.size) := by
            rw [← List.append_assoc, List.drop_append, List.drop_eq_nil_of_le (by simp; omega), List.nil_append]
            congr 1
            simp [e1]
          rw [List.toList_toArray, hlen, e2, e3, cat_append]
          simp only [List.append_assoc]
        · simp only [List.length_append, hm, List.length_drop]
          rw [Nat.add_mul]; omega
        · rw [heap_setCells _ _ _ _ _ hrow, if_neg (Ne.symm hne)]
      · have hgr := run_append_grow (P := P) w t ty e i0 z E.slice hi0 hz0 ⟨be, p.length, none⟩ xs.length cap (cat enc xs) (cat_length E.len xs) holdS.cells ⟨b, o, none⟩ m c (cat enc ys) hlen hcells (by omega) (by omega) (growslice_fits (by omega) hB)
        have hge := grownCap_ge w (xs.length + m) cap e
        refine ⟨w.heap.size, grownCap w (xs.length + m) cap e, _, _, hgr, ?_, .inr (Nat.le_refl _), (Chg.refl _ _).drew.alloc _, ?_⟩
        · refine .inr ⟨by have := hq.lt; omega, by simp [hm]; exact hge, 0, [], (Builtin.zeroCells z.cells (grownCap w (xs.length + m) cap e - (xs.length + m))).toList, rfl, rfl, ?_, ?_⟩
          · rw [heap_alloc]
            have h2 : w.drew.heap[w.heap.size]? = none := Array.getElem?_eq_none (Nat.le_refl _)
            have h3 : w.heap.size = w.drew.heap.size := rfl
            rw [h2, if_pos h3]
            simp [sqo, cat_append]
          · simp only [List.length_append, hm, Array.length_toList, size_zeroCells, E.zero]
            rw [← Nat.add_mul]; apply Nat.mul_le_mul_right; omega
        · rw [heap_alloc, heap_drew, if_neg (by have h1 := hq.lt; have h2 : w.drew.heap.size = w.heap.size := rfl; omega), Option.or_none]
end
end Go.Proofs.Ytnocekhgabgffaa
end
section
namespace Go.Proofs.Ytnocekhgabgffaa
open Go.RowKit
set_option linter.unusedVariables false
set_option maxHeartbeats 1000000

/-! ### Events -/
structure Ev where
  kd : Int
  co : Int
  li : Int
  wo : Int
  va : Int
deriving DecidableEq
def Ev.enc (e : Ev) : List Value := [.int .i64 e.kd, .int .i64 e.co, .int .i64 e.li, .int .i64 e.wo, .int .u64 e.va]
def evc (e : Ev) : Array Value := (Ev.enc e).toArray

def evZ : Ev := ⟨0, 0, 0, 0, 0⟩
theorem Ev.len (e : Ev) : (Ev.enc e).length = 5 := rfl
theorem Ev.one (e : Ev) : ∀ v ∈ Ev.enc e, v.oneCell' = true := by
  intro v hv
  simp only [Ev.enc, List.mem_cons, List.not_mem_nil, or_false] at hv
  rcases hv with rfl | rfl | rfl | rfl | rfl <;> rfl
theorem evc_size (e : Ev) : (evc e).size = 5 := by simp [evc, Ev.enc]
theorem evc_one (e : Ev) : allOne (evc e) := allOne_list _ (List.all_eq_true.2 (Ev.one e))
theorem evc_kd (e : Ev) : (evc e)[0]? = some (.int .i64 e.kd) := rfl
theorem evc_co (e : Ev) : (evc e)[1]? = some (.int .i64 e.co) := rfl
theorem evc_li (e : Ev) : (evc e)[2]? = some (.int .i64 e.li) := rfl
theorem evc_wo (e : Ev) : (evc e)[3]? = some (.int .i64 e.wo) := rfl
theorem evc_va (e : Ev) : (evc e)[4]? = some (.int .u64 e.va) := rfl
theorem evc_lit (k c l o v : Int) : (#[.int .i64 k, .int .i64 c, .int .i64 l, .int .i64 o, .int .u64 v] : Array Value) = evc ⟨k, c, l, o, v⟩ := rfl
theorem evc_z : evc ⟨0, 0, 0, 0, 0⟩ = evc evZ := rfl
theorem evc_set0 (e : Ev) (v : Int) : (evc e).setIfInBounds 0 (.int .i64 v) = evc ⟨v, e.co, e.li, e.wo, e.va⟩ := by simp [evc, Ev.enc]
theorem evc_set1 (e : Ev) (v : Int) : (evc e).setIfInBounds 1 (.int .i64 v) = evc ⟨e.kd, v, e.li, e.wo, e.va⟩ := by simp [evc, Ev.enc]
theorem evc_set2 (e : Ev) (v : Int) : (evc e).setIfInBounds 2 (.int .i64 v) = evc ⟨e.kd, e.co, v, e.wo, e.va⟩ := by simp [evc, Ev.enc]
theorem evc_set3 (e : Ev) (v : Int) : (evc e).setIfInBounds 3 (.int .i64 v) = evc ⟨e.kd, e.co, e.li, v, e.va⟩ := by simp [evc, Ev.enc]
theorem evc_set4 (e : Ev) (v : Int) : (evc e).setIfInBounds 4 (.int .u64 v) = evc ⟨e.kd, e.co, e.li, e.wo, v⟩ := by simp [evc, Ev.enc]
theorem evZ_kd : evZ.kd = 0 := rfl
theorem evZ_co : evZ.co = 0 := rfl
theorem evZ_li : evZ.li = 0 := rfl
theorem evZ_wo : evZ.wo = 0 := rfl
theorem evZ_va : evZ.va = 0 := rfl
theorem evc_ne (e : Ev) : (evc e = #[]) = False := eq_false (fun h => by have := congrArg Array.size h; rw [evc_size] at this; cases this)
theorem fold_evc (C : Array Value) (e : Ev) (h : C.size = 5) : Array.foldl (fun cs y => cs.setIfInBounds y.snd y.fst) C (evc e).zipIdx 0 5 = evc e := fold_all _ _ _ (evc_size e) h
end Go.Proofs.Ytnocekhgabgffaa
end
