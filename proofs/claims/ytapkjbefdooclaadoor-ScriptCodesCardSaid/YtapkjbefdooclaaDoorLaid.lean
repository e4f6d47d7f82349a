/- A law's row out of its walk where the row lists package-level variables: as Kit's law_ret; and a listed variable of integers and bools is just its cells. No condition. -/
import Derived.Test.YtapkjbefdooclaaDoorMem
import Derived.LaidMore
import Derived.LaidHandle
import Derived.Handed
import Derived.OpenShut
import Derived.Stop.Joined
namespace Go.Proofs.YtapkjbefdooclaaDoor
open Go.ChangeShapes Go.WideShapes Go.ChangeAt Go.RowKit
set_option linter.unusedVariables false

section
variable {H : Type} {enc : TypeId × Value → H} {P : Program}
/-- THE ROW's STEP FOR A LAW THAT LISTS VARIABLES. -/
theorem law_ret_laid {C : Checked} {os : Os} {f : FuncId} {fn : Func} {s : ChangeSpec} {tb : TypeId} {laid : List (String × DataW Unit)}
    (own : ownKnob C.prog.godebug = none) (started : os.Started) (noInit : C.prog.inits.idxOf? f = none) (hfn : C.prog.funcs[f]? = some fn)
    (witness : ∃ (w : World) (tape : Tape) (i : Input), w.os = os ∧ (w.forCall tape i).Shaped C.prog ∧ i.vars = [] ∧ Input.okWide C.prog (w.forCall tape i) .any w.heap.size f i ∧
      ((s.pre enc C.prog fn [] false (w.forCall tape i).memory i.args ∧ laidMetH C.prog laid (w.forCall tape i).memory) ∧ sizedMet enc C.prog fn (OpenSpec.ofChange s) false (w.forCall tape i).memory i.args) ∧ ({} : Assume).holds C.prog (lone (Frame.enter C.prog f i.args .normal) [] (w.forCall tape i)))
    (hsv : s.vars = []) (hs : ∀ ds : List (DataW H), ds.length = fn.params.toList.length → s.fn H ds = { results := [.lit (.bool true)], args := ds })
    (hl : laidOutB C.prog = true) (hps : fn.params.toList.all (fun t => C.prog.readableRec t && decide (t < C.prog.types.size)) = true)
    (hr : fn.resultTypes = #[tb]) (htb : C.prog.underlying tb = some .bool)
    (walk : ∀ (W : World) (base : Nat) (args : Array Value) (ds : List (DataW H)) (ps : List MemPlace),
      (∀ (j : Nat) t v, fn.params[j]? = some t → args[j]? = some v → Value.okWide C.prog W .any base t v) →
      DataW.TrodAll enc C.prog W 0 (fun _ => true) true fn.params.toList args.toList ds ps → (∀ x ∈ ps, x.block < W.heap.size) → W.noneFrozen ps →
      (DataW.weightsEach C.prog fn.params.toList ds).all (· ≤ reachBytes) = true → laidMetH C.prog laid W →
      Calls C.prog f args W fun e W' => e = .returned (.bool true) ∧ Below W.heap.size W W') :
    ReturnsInHanded {} C os f .any (fun w args => (s.pre enc C.prog fn [] false w args ∧ laidMetH C.prog laid w) ∧ sizedMet enc C.prog fn (OpenSpec.ofChange s) false w args) (s.post enc C.prog fn false true false false) := by
  refine returnsInHanded_of_change_and (C := C) (X := fun w _ => laidMetH C.prog laid w) (fun _ _ _ hh h => h.of_heap hh) own started noInit hfn witness ?_
  intro W base args ds gs before hval hw' _ hsz hL _
  have hlt : ∀ x ∈ before, x.block < W.heap.size := fun x hx => hw'.lt x hx
  have hW := hw'
  obtain ⟨p, q, hA, hV, rfl, hfz, hnd⟩ := hw'
  rw [hsv] at hV
  obtain ⟨rfl, rfl⟩ := trodVars_none hV
  simp only [List.append_nil] at hlt hfz hW
  have hsz' : (DataW.weightsEach C.prog fn.params.toList ds).all (· ≤ reachBytes) = true := by
    have e2 : s.plain.varTypes C.prog = [] := by simp [DataSpec.varTypes, ChangeSpec.plain, hsv]
    have hz3 : (DataW.weightsEach C.prog (fn.params.toList ++ s.plain.varTypes C.prog) (ds ++ [])).all (· ≤ reachBytes) = true := hsz
    rw [e2, List.append_nil, List.append_nil] at hz3
    exact hz3
  refine (walk W base args ds p hval hA hlt hfz hsz' hL).mono fun e W' ⟨he, hb⟩ => ?_
  subst he
  have hlen := trodAll_lengths hA
  refine ⟨_, rfl, ds, [], p, [], p, [], hW, ?_, ?_, ?_, ?_, ?_⟩
  · rw [List.append_nil, hs ds hlen, hr]
    exact trodAll_mk1 (shut_bool htb _)
  · rw [List.append_nil, hs ds hlen]
    refine trodAll_stay hl hb (fun t ht => ?_) hA hlt
    have := List.all_eq_true.1 hps t ht
    simpa using this
  · rw [hsv, List.append_nil, hs ds hlen]
    rfl
  · exact World.keptBut_mono (fun x hx => ⟨hx, .inr (.inl hx)⟩) (hb.frame (· ∈ p))
  · intro h; cases h

/-! ### A variable of integers and bools is just its cells -/
mutual
def flat : DataW H → List Value
  | .lit (.int k n) => [.int k n]
  | .lit (.bool b) => [.bool b]
  | .agg ps => flatAll ps
  | _ => []
def flatAll : List (DataW H) → List Value
  | [] => []
  | d :: r => flat d ++ flatAll r
end
def plainFields (P : Program) (K : TypeId → Bool) : List Field → Nat → Nat → Bool
  | [], off, n => off == n
  | f :: fs, off, n => K f.type && f.offset == off && plainFields P K fs (off + P.cellsOf f.type) n
def plainTy (P : Program) : Nat → TypeId → Bool
  | 0, _ => false
  | d + 1, t => match P.underlying t with
    | some (.int _) => true
    | some .bool => true
    | some (.array n e) => plainTy P d e && P.cellsOf t == n * P.cellsOf e
    | some (.struct fs) => plainFields P (plainTy P d) fs.toList 0 (P.cellsOf t)
    | _ => false
variable {w : World} {base : Nat} {sp : Nat → Bool} {held : Bool}
theorem flat_rows {c : Nat} : ∀ (n : Nat) (cs : List Value) (xs : List (DataW H × List MemPlace)), cs.length = n * c → xs.length = n → (∀ (i : Nat) x, xs[i]? = some x → (cs.drop (i * c)).take c = flat x.1) → cs = flatAll (xs.map (·.1))
  | 0, cs, xs, hl, hx, _ => by
    obtain rfl : xs = [] := List.eq_nil_of_length_eq_zero hx
    obtain rfl : cs = [] := List.eq_nil_of_length_eq_zero (by simpa using hl)
    simp [flatAll]
  | n + 1, cs, [], hl, hx, _ => by simp at hx
  | n + 1, cs, x :: xs, hl, hx, h => by
    have h0 := h 0 x rfl
    simp only [Nat.zero_mul, List.drop_zero] at h0
    have ih := flat_rows (c := c) n (cs.drop c) xs (by rw [List.length_drop, hl, Nat.add_mul]; omega) (by simpa using hx) (fun i y hy => by
      rw [List.drop_drop, show c + i * c = (i + 1) * c by rw [Nat.add_mul]; omega]
      exact h (i + 1) y (by simpa using hy))
    rw [List.map_cons, flatAll, ← h0, ← ih, List.take_append_drop]
theorem flat_fields {K : TypeId → Bool} {m : Nat} (ih : ∀ (t : TypeId), K t = true → ∀ (cs : List Value) (x : DataW H × List MemPlace), DataW.trod enc P w base sp held m t cs = some x → cs = flat x.1) :
    ∀ (fs : List Field) (off : Nat) (cs : List Value) (xs : List (DataW H × List MemPlace)), plainFields P K fs off cs.length = true → xs.length = fs.length → (∀ (i : Nat) (f : Field), fs[i]? = some f → DataW.trod enc P w base sp held m f.type ((cs.drop f.offset).take (P.cellsOf f.type)) = xs[i]?) → cs.drop off = flatAll (xs.map (·.1))
  | [], off, cs, xs, hk, hx, _ => by
    obtain rfl : xs = [] := List.eq_nil_of_length_eq_zero hx
    simp only [plainFields, beq_iff_eq] at hk
    simp [flatAll, hk]
  | f :: fs, off, cs, [], hk, hx, _ => by simp at hx
  | f :: fs, off, cs, x :: xs, hk, hx, h => by
    simp only [plainFields, Bool.and_eq_true, beq_iff_eq] at hk
    obtain ⟨⟨h1, h2⟩, h3⟩ := hk
    have h0 := h 0 f rfl
    rw [h2] at h0
    have e0 := ih _ h1 _ _ h0
    have e1 := flat_fields ih fs (off + P.cellsOf f.type) cs xs h3 (by simpa using hx) (fun i g hg => by
      have := h (i + 1) g (by simpa using hg)
      simpa using this)
    rw [List.map_cons, flatAll, ← e0, ← e1, ← List.drop_drop, List.take_append_drop]
theorem trod_flat : ∀ (d : Nat) (t : TypeId), plainTy P d t = true → ∀ (m : Nat) (cs : List Value) (x : DataW H × List MemPlace), DataW.trod enc P w base sp held m t cs = some x → cs = flat x.1
  | 0, t, hk, _, _, _, _ => by simp [plainTy] at hk
  | d + 1, t, hk, m, cs, x, hx => by
    simp only [plainTy] at hk
    split at hk
    · rename_i k hu
      obtain ⟨n, rfl, rfl, hw⟩ := DataW.trod_int hu hx
      simp [flat]
    · rename_i hu
      obtain ⟨b, rfl, rfl⟩ := DataW.trod_bool hu hx
      simp [flat]
    · rename_i n e hu
      simp only [Bool.and_eq_true, beq_iff_eq] at hk
      obtain ⟨xs, q, _, rfl, hl, hxl, hel⟩ := DataW.trod_array hu hx
      rw [flat]
      exact flat_rows n cs xs (by rw [hl, hk.2]) hxl (fun i y hy => by
        have hi : i < n := by rw [← hxl]; exact (List.getElem?_eq_some_iff.1 hy).1
        have := hel i hi
        rw [hy] at this
        exact trod_flat d e hk.1 _ _ _ this)
    · rename_i fs hu
      obtain ⟨xs, q, _, rfl, hl, hxl, hel⟩ := DataW.trod_struct hu hx
      rw [flat]
      have := flat_fields (K := plainTy P d) (m := q) (fun t hk cs x hx => trod_flat d t hk q cs x hx) fs.toList 0 cs xs (by rw [hl]; exact hk) (by simpa using hxl) (fun i f hf => hel i f (by simpa using hf))
      rwa [List.drop_zero] at this
    · cases hk
end
/-- What a list of one variable gives: its block. -/
theorem block_of_laid {P : Program} {W : World} {name : String} {d : DataW Unit} {g : Nat} {t : TypeId} {n : Nat}
    (hg : P.globalNamed name = some g) (hty : (P.globals[g]?).map (·.type) = some t) (hp : plainTy P n t = true) (hpl : ([(name, d)].all fun x => x.2.handleName?.isNone) = true) (h : laidMetH P [(name, d)] W) : ∃ ty f, W.heap[g]? = some (.cells (flat d).toArray ty f) := by
  rw [MakeChecks.laidMetH_plain _ _ _ hpl] at h
  obtain ⟨ps, ⟨g', t', cs, fuel, p, q, hg', ht', hvar, hd, _, _⟩, _⟩ := h
  obtain rfl := Option.some.inj (hg.symm.trans hg')
  obtain rfl := Option.some.inj (hty.symm.trans ht')
  have e := trod_flat n t hp _ _ _ hd
  unfold World.var? at hvar
  rw [hg] at hvar
  simp only [Option.bind_some] at hvar
  split at hvar
  · rename_i c ty f hh
    injection hvar with hvar
    subst hvar
    refine ⟨ty, f, ?_⟩
    rw [hh, ← show c.toList = flat d from e]
  · cases hvar
end Go.Proofs.YtapkjbefdooclaaDoor
