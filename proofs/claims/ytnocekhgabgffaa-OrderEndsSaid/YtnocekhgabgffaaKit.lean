/- A law's row out of its walk: if the call returns true in every world and nothing that was there before has changed, the row holds. No condition. -/
import Derived.ProofKit
import Derived.OpenShut
import Derived.Below
import Derived.BigQuiet
import Derived.ChangeKeysEq
import Derived.WalkKit
namespace Go.Proofs.Ytnocekhgabgffaa
open Go.ChangeShapes Go.WideShapes Go.ChangeAt Go.RowKit

section
variable {H : Type} {enc : TypeId × Value → H} {P : Program}

/-- Arguments read as they did where nothing below the old heap's size has changed. -/
theorem trodAll_stay (hl : laidOutB P = true) {W W' : World} (hb : Below W.heap.size W W') : ∀ {ts : List TypeId} {vs : List Value} {ds : List (DataW H)} {ps : List MemPlace},
    (∀ t ∈ ts, P.readableRec t = true ∧ t < P.types.size) → DataW.TrodAll enc P W 0 (fun _ => true) true ts vs ds ps → (∀ x ∈ ps, x.block < W.heap.size) →
    DataW.TrodAll enc P W' 0 (fun b => decide (b < W.heap.size)) true ts vs ds ps
  | [], _, _, _, _, h, _ => by
    obtain ⟨rfl, rfl, rfl⟩ := trodAll_nil h
    exact rfl
  | t :: ts, _, _, _, hts, h, hlt => by
    obtain ⟨v, vs1, d, ds1, a, b, rfl, rfl, rfl, h1, h2⟩ := trodAll_cons h
    have ht := hts t (List.mem_cons_self ..)
    exact ⟨a, b, Below.trod hl ht.1 ht.2 h1 hb (fun x hx => hlt x (List.mem_append_left _ hx)),
      trodAll_stay hl hb (fun t' h' => hts t' (List.mem_cons_of_mem _ h')) h2 (fun x hx => hlt x (List.mem_append_right _ hx)), rfl⟩

theorem trodAll_lengths {w : World} {base : Nat} {sp : Nat → Bool} {hd : Bool} : ∀ {ts : List TypeId} {vs : List Value} {ds : List (DataW H)} {ps : List MemPlace}, DataW.TrodAll enc P w base sp hd ts vs ds ps → ds.length = ts.length
  | [], _, _, _, h => by obtain ⟨rfl, rfl, rfl⟩ := trodAll_nil h; rfl
  | t :: ts, _, _, _, h => by
    obtain ⟨v, vs1, d, ds1, a, b, rfl, rfl, rfl, h1, h2⟩ := trodAll_cons h
    simp [trodAll_lengths h2]

/-- THE ROW's STEP FOR A LAW. -/
theorem law_ret {C : Checked} {os : Os} {f : FuncId} {fn : Func} {s : ChangeSpec} {tb : TypeId}
    (own : ownKnob C.prog.godebug = none) (started : os.Started) (noInit : C.prog.inits.idxOf? f = none) (hfn : C.prog.funcs[f]? = some fn)
    (witness : ∃ (w : World) (tape : Tape) (i : Input), w.os = os ∧ (w.forCall tape i).Shaped C.prog ∧ i.vars = [] ∧ Input.okWide C.prog (w.forCall tape i) .any w.heap.size f i ∧
      s.pre6 enc C.prog fn [] false (w.forCall tape i).memory i.args ∧ ({} : Assume).holds C.prog (lone (Frame.enter C.prog f i.args .normal) [] (w.forCall tape i)))
    (hsv : s.vars = []) (hs : ∀ ds : List (DataW H), ds.length = fn.params.toList.length → s.fn H ds = { results := [.lit (.bool true)], args := ds })
    (hl : laidOutB C.prog = true) (hps : fn.params.toList.all (fun t => C.prog.readableRec t && decide (t < C.prog.types.size)) = true)
    (hr : fn.resultTypes = #[tb]) (htb : C.prog.underlying tb = some .bool)
    (walk : ∀ (W : World) (base : Nat) (args : Array Value) (ds : List (DataW H)) (ps : List MemPlace),
      (∀ (j : Nat) t v, fn.params[j]? = some t → args[j]? = some v → Value.okWide C.prog W .any base t v) →
      DataW.TrodAll enc C.prog W 0 (fun _ => true) true fn.params.toList args.toList ds ps → (∀ x ∈ ps, x.block < W.heap.size) → W.noneFrozen ps →
      (DataW.weightsEach C.prog fn.params.toList ds).all (· ≤ reachBytes) = true →
      Calls C.prog f args W fun e W' => e = .returned (.bool true) ∧ Below W.heap.size W W') :
    ReturnsInHanded {} C os f .any (s.pre6 enc C.prog fn [] false) (s.post enc C.prog fn false true false false) := by
  refine returnsInHanded_of_calls own started noInit witness ?_
  intro w tape i _ _ _ hok hpre _
  obtain ⟨_, _, _, fn', hfn', _, _, _, _, hval⟩ := hok
  have e : fn' = fn := Option.some.inj (hfn'.symm.trans hfn)
  subst e
  obtain ⟨⟨ds, gs, before, hw, _⟩, hz⟩ := hpre
  have hsz := hz.weights hw
  have hw' := DataW.Whole.of_heap (w' := w.forCall tape i) (by rfl) hw
  have hlt : ∀ x ∈ before, x.block < (w.forCall tape i).heap.size := fun x hx => hw'.lt x hx
  have hW := hw'
  obtain ⟨p, q, hA, hV, rfl, hfz, hnd⟩ := hw'
  rw [hsv] at hV
  obtain ⟨rfl, rfl⟩ := trodVars_none hV
  simp only [List.append_nil] at hlt hfz hW
  have hsz' : (DataW.weightsEach C.prog fn'.params.toList ds).all (· ≤ reachBytes) = true := by
    have e2 : s.plain.varTypes C.prog = [] := by simp [DataSpec.varTypes, ChangeSpec.plain, hsv]
    have hz3 : (DataW.weightsEach C.prog (fn'.params.toList ++ s.plain.varTypes C.prog) (ds ++ [])).all (· ≤ reachBytes) = true := hsz
    rw [e2, List.append_nil, List.append_nil] at hz3
    exact hz3
  refine (walk (w.forCall tape i) w.heap.size i.args ds p hval hA hlt hfz hsz').mono fun e W' ⟨he, hb⟩ => ?_
  subst he
  have hlen := trodAll_lengths hA
  refine ChangeSpec.post_blind ⟨ds, [], p, [], p, [], hW, ?_, ?_, ?_, ?_, ?_⟩
  · rw [List.append_nil, hs ds hlen, hr]
    exact trodAll_mk1 (shut_bool htb _)
  · rw [List.append_nil, hs ds hlen]
    refine trodAll_stay hl hb (fun t ht => ?_) hA hlt
    have := List.all_eq_true.1 hps t ht
    simpa using this
  · rw [hsv, List.append_nil, hs ds hlen]
    rfl
  · exact World.keptBut_mono (fun x hx => ⟨hx, .inr (.inl hx)⟩) (hb.frame (· ∈ p))
  · intro h; cases h
end

/-! ### A REGION THAT DRAWS ITS ORDER, whose operations only read and whose callees make memory but change none that was there: one walk serves every order. -/
/-- A world behind W: below block N all is as it was. -/
def Aft (N : Nat) (W : World) : Type := { w : World // Below N W w }
/-- The world itself. -/
def Aft.w {N : Nat} {W : World} (x : Aft N W) : World := x.val
theorem Aft.below {N : Nat} {W : World} (x : Aft N W) : Below N W x.w := x.property
instance {N : Nat} {W : World} : Nonempty (Aft N W) := ⟨⟨W, Below.refl _ _⟩⟩
theorem Aft.size {N : Nat} {W : World} (x : Aft N W) : W.heap.size ≤ x.w.heap.size := x.below.size
theorem Aft.block {N : Nat} {W : World} (x : Aft N W) {k : Nat} (h : k < N) : x.w.heap[k]? = W.heap[k]? := x.below.block k h
theorem Aft.cell {N : Nat} {W : World} (x : Aft N W) {b : Nat} (h : b < N) (o : Nat) : x.w.cell? ⟨b, o, none⟩ = W.cell? ⟨b, o, none⟩ := x.below.cell (p := ⟨b, o, none⟩) h
theorem Aft.frozen {N : Nat} {W : World} (x : Aft N W) {b : Nat} (h : b < N) (o : Nat) : x.w.frozen? ⟨b, o, none⟩ = W.frozen? ⟨b, o, none⟩ := x.below.frozen (p := ⟨b, o, none⟩) h

theorem calls_aft {P : Program} {f : FuncId} {args : Array Value} {N : Nat} {W : World} {x : Aft N W} {v : Value} (hN : N ≤ W.heap.size)
    (h : Calls P f args x.w fun e w' => e = .returned v ∧ Below x.w.heap.size x.w w') : Calls P f args x.w fun e w'' => e = .returned v ∧ ∃ y : Aft N W, w'' = y.w :=
  h.mono fun _ _ ⟨he, hb⟩ => ⟨he, ⟨⟨_, x.below.trans (hb.mono (Nat.le_trans hN x.size))⟩, rfl⟩⟩
theorem calls_aft_same {P : Program} {f : FuncId} {args : Array Value} {N : Nat} {W : World} {x : Aft N W} {v : Value}
    (h : Calls P f args x.w fun e w' => e = .returned v ∧ x.w = w') : Calls P f args x.w fun e w'' => e = .returned v ∧ ∃ y : Aft N W, w'' = y.w :=
  h.mono fun _ _ ⟨he, hb⟩ => ⟨he, x, hb.symm⟩

theorem wp_region_aft {P : Program} {id : Nat} {Q : Exit → Act → World → Prop} {a : Act} {w : World} {l : List Oper} (N : Nat) (hm : P.follows .mixedOrders = true) (hB : Region.lexB .any l.toArray = true)
    (h : wpQuiet P l.toArray (fun w' => ∃ x : Aft N w, w' = x.w) (fun a' => ∀ w', (∃ x : Aft N w, w' = x.w) → Q .normal a' w') l a) : (Code.region id l.toArray true).wp P Q a w :=
  wp_region_quiet (C := fun w' => ∃ x : Aft N w, w' = x.w) hm hB ⟨⟨_, (Below.refl _ _).drew⟩, rfl⟩ (by simpa using h)

theorem below1 {P : Program} {f : FuncId} {args : Array Value} {w : World} {v : Value} {c : Array Value} {T : TypeId} (h : Calls P f args w fun e w' => e = .returned v ∧ w' = w.alloc (.cells c T)) : Calls P f args w fun e w' => e = .returned v ∧ Below w.heap.size w w' :=
  h.mono fun _ _ ⟨he, hw⟩ => ⟨he, by subst hw; exact (Below.refl _ _).alloc (Nat.le_refl _) _⟩
theorem below2 {P : Program} {f : FuncId} {args : Array Value} {w : World} {v : Value} {T T' : TypeId} (h : Calls P f args w fun e w' => e = .returned v ∧ ∃ c1 c2 : Array Value, w' = (w.alloc (.cells c1 T)).alloc (.cells c2 T')) : Calls P f args w fun e w' => e = .returned v ∧ Below w.heap.size w w' :=
  h.mono fun _ _ ⟨he, c1, c2, hw⟩ => ⟨he, by subst hw; exact ((Below.refl _ _).alloc (Nat.le_refl _) _).alloc (by simp) _⟩

/-! ### '==' of two arrays of integers. -/
theorem eqItems_ints {P : Program} (w : World) (d : Nat) {e : TypeId} {k : IntKind} (he : P.underlying e = some (.int k)) (hc : P.cellsOf e = 1) (ns ms : List Int) : ∀ (is : List Nat), (∀ i ∈ is, i < ns.length ∧ i < ms.length) →
    (Op.eqItems (d + 1) e 1 (ns.map (Value.int k)).toArray (ms.map (Value.int k)).toArray is).run P w = .ok (is.all fun i => ns.getD i 0 == ms.getD i 0) w
  | [], _ => by simp [Op.eqItems]
  | i :: is, h => by
    obtain ⟨h1, h2⟩ := h i (by simp)
    have p1 : (part e (ns.map (Value.int k)).toArray i).run P w = .ok (.int k (ns.getD i 0)) w := run_part_plain w (by simp [Program.plainKey, he]) (by simp [h1])
    have p2 : (part e (ms.map (Value.int k)).toArray i).run P w = .ok (.int k (ms.getD i 0)) w := run_part_plain w (by simp [Program.plainKey, he]) (by simp [h2])
    have ih := eqItems_ints w d he hc ns ms is (fun j hj => h j (by simp [hj]))
    simp only [Op.eqItems, Nat.mul_one, Sem.run_bind, p1, p2, Result.andThen_ok, run_equalIn_int w d e k k _ _ he]
    cases hb : (ns.getD i 0 == ms.getD i 0)
    · simp at hb; simp [hb]
    · simp at hb; simp [hb, ih]
theorem eq_ints_array {P : Program} (w : World) {t e : TypeId} {n : Nat} {i : TypeInfo} {k : IntKind} (hu : P.underlying t = some (.array n e)) (hi : P.info? e = some i) (he : P.underlying e = some (.int k)) (hc : P.cellsOf e = 1) (ns ms : List Int)
    (hn : ns.length = n) (hm : ms.length = n) : (Op.equalIn 10000 t (.agg (ns.map (Value.int k)).toArray) (.agg (ms.map (Value.int k)).toArray)).run P w = .ok (ns == ms) w := by
  rw [run_equalIn_array w 9999 _ _ hu hi, hc, eqItems_ints w 9998 he hc ns ms _ (by intro i hi; simp at hi; omega)]
  congr 1
  rw [Bool.eq_iff_iff]
  simp only [List.all_eq_true, List.mem_range, beq_iff_eq]
  constructor
  · intro h
    apply List.ext_getElem (by omega)
    intro j h1 h2
    have := h j (by omega)
    simpa [h1, h2] using this
  · rintro rfl j _; rfl
end Go.Proofs.Ytnocekhgabgffaa
