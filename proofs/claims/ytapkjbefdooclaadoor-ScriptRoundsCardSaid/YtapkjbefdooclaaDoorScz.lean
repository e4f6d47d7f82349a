/- The statements of layer 16, with the table of what a kind has tied to the program's text: for every acts, bytes and configurations. No condition. -/
import Derived.Test.YtapkjbefdooclaaDoorCards
import Derived.Test.YtapkjbefdooclaaDoorTie
import Derived.Test.YtapkjbefdooclaaDoorLaid
import Derived.Test.YtapkjbefdooclaaDoorArgs
import Derived.Test.YtapkjbefdooclaaDoorScj
import Derived.Test.YtapkjbefdooclaaDoorSck
import Derived.Test.YtapkjbefdooclaaDoorScl
import Derived.ChangeMaps5
import Derived.LaidMore
import Derived.SevenTiedAt
namespace Go.Proofs.YtapkjbefdooclaaDoor
open Go.ChangeShapes Go.WideShapes Go.ChangeAt Go.RowKit
open Go.ChangeMaps (open_string shut_string)
set_option linter.unusedVariables false


theorem own : ownKnob Tryd.prog.godebug = none := by kernel_rfl
theorem laidOut : laidOutB Tryd.prog = true := by kernel_rfl

def laidM : List (String × DataW Unit) := [("bellows/script.kinds", Rows.laid_bellows_script_kinds)]
theorem gKin : Tryd.prog.globalNamed "bellows/script.kinds" = some 0 := by kernel_rfl
theorem tKin : (Tryd.prog.globals[0]?).map (·.type) = some 43 := by kernel_rfl
theorem flatKin : flat (H := Unit) Rows.laid_bellows_script_kinds = kdL := by rfl
theorem tab_of_laid {W : World} (h : laidMetH Tryd.prog laidM W) : KTab W := by
  have := block_of_laid (n := 9) gKin tKin (by kernel_rfl) (by kernel_rfl) h
  rw [flatKin] at this
  exact this
theorem door_met (os : Os) (args : Array Value) : laidMetH Tryd.prog laidM ((World.doorLaid Tryd.prog 20 os).forCall (fun _ _ => 0) ⟨#[], args, []⟩).memory :=
  laidMetH_of_parts3 (fuel := 8) (laidMet_of_run' 8 (by kernel_rfl) (by kernel_rfl)) (by kernel_rfl) (by kernel_rfl)
def kAct16 : List Kd := List.replicate 3 (.int .i64)
theorem kinds_acts : kinds Tryd.prog 9 22 = some [.slice kAct16] := by kernel_rfl
theorem kinds_cfg : kinds Tryd.prog 9 36 = some (List.replicate 7 (.int .i64)) := by kernel_rfl
theorem acts_of {w : World} : ∀ (n : Nat) (xs : List Value), xs.length = n * 3 → (∀ i, i < n → AreKd w kAct16 ((xs.drop (i * 3)).take 3)) → ∃ l : List Sact, l.length = n ∧ xs = cat Sact.enc l
  | 0, xs, h, _ => ⟨[], rfl, List.eq_nil_of_length_eq_zero (by omega)⟩
  | n + 1, xs, h, hk => by
    obtain ⟨ns, h3, he, _⟩ := AreKd.ints (hk 0 (by omega))
    obtain ⟨l, hl, hx⟩ := acts_of n (xs.drop 3) (by rw [List.length_drop]; omega) (fun i hi => by
      have := hk (i + 1) (by omega)
      rw [List.drop_drop]
      rwa [show 3 + i * 3 = (i + 1) * 3 by omega])
    match ns, h3 with
    | [a, b, c], _ =>
      refine ⟨⟨a, b, c⟩ :: l, by simp [hl], ?_⟩
      rw [cat_cons, ← hx]
      rw [Nat.zero_mul, List.drop_zero] at he
      rw [show Sact.enc ⟨a, b, c⟩ = xs.take 3 from he.symm, List.take_append_drop]
theorem cfg_cells {w : World} {cs : List Value} (h : AreKd w (List.replicate 7 (.int .i64)) cs) : ∃ c l r, r.length = 5 ∧ cs.toArray = cnf c l r := by
  obtain ⟨ns, h7, rfl, _⟩ := AreKd.ints h
  match ns, h7 with
  | c :: l :: r, h7 => exact ⟨c, l, r, by simpa using h7, rfl⟩
theorem to_below {e : Ending} {W w' : World} (h : e = .returned (.bool true) ∧ Chg [] W w') : e = .returned (.bool true) ∧ Below W.heap.size W w' := ⟨h.1, h.2.below (Nat.le_refl _) (by simp)⟩

theorem scriptCodes_spec {H : Type} : ∀ ds : List (DataW H), ds.length = Tryd.f3.params.toList.length → Rows.scriptCodesSpec.fn H ds = { results := [.lit (.bool true)], args := ds } := by
  intro ds h
  rw [show Tryd.f3.params.toList.length = 2 by kernel_rfl] at h
  match ds, h with
  | [d1, d2], _ => rfl

theorem scriptCodes_call {H : Type} {enc : TypeId × Value → H} : ∀ (W : World) (base : Nat) (args : Array Value) (ds : List (DataW H)) (ps : List MemPlace),
      (∀ (j : Nat) t v, Tryd.f3.params[j]? = some t → args[j]? = some v → Value.okWide Tryd.checked.prog W .any base t v) →
      DataW.TrodAll enc Tryd.checked.prog W 0 (fun _ => true) true Tryd.f3.params.toList args.toList ds ps → (∀ x ∈ ps, x.block < W.heap.size) → W.noneFrozen ps →
      (DataW.weightsEach Tryd.checked.prog Tryd.f3.params.toList ds).all (· ≤ reachBytes) = true → laidMetH Tryd.checked.prog laidM W →
      Calls Tryd.checked.prog 3 args W fun e W' => e = .returned (.bool true) ∧ Below W.heap.size W W' := by
  intro W base args ds ps hval0 hA0 hlt hfz hsz hL
  have ht := tab_of_laid hL
  have hval : ∀ (j : Nat) t v, Tryd.f3.params[j]? = some t → args[j]? = some v → Value.okWide Tryd.prog W .any base t v := hval0
  have hA : DataW.TrodAll enc Tryd.prog W 0 (fun _ => true) true Tryd.f3.params.toList args.toList ds ps := hA0
  rw [Tryd.params3] at hA hval
  obtain ⟨v0, vs0, d0, ds0, p0, q0, hargs, rfl, rfl, h0, r0⟩ := trodAll_cons hA
  obtain ⟨v1, vs1, d1, ds1, p1, q1, rfl, rfl, rfl, h1, r1⟩ := trodAll_cons r0
  obtain ⟨rfl, rfl, rfl⟩ := trodAll_nil r1
  obtain rfl : args = #[v0, v1] := by cases args; simp_all
  clear hA0 hval0 hsz hfz hlt
  obtain ⟨A, n, c, xs, rfl, hn, hc, hs, _, hk⟩ := (open_sl Tryd.underlying22 kinds_acts (hval 0 22 _ rfl rfl) h0).rows
  obtain ⟨l, hl, rfl⟩ := acts_of n xs hs.1 hk
  obtain ⟨s, rfl, rfl, rfl, _⟩ := open_string Tryd.underlying9 (hval 1 9 _ rfl rfl) h1
  rw [str_list s]
  exact (kcodes_any _ W ht hs hl).mono fun e w' h => to_below h

set_option maxRecDepth 100000 in
theorem scriptCodes_said : Rows.ScriptCodesSaid :=
  OpenClaim.holds_of_wide 3 Tryd.f3 rfl rfl rfl rfl rfl rfl rfl ⟨rfl, rfl, rfl, rfl, rfl⟩ rfl rfl rfl rfl rfl (by kernel_rfl) Tryd.func3 (by kernel_rfl)
    (of_decide_eq_true (by kernel_rfl)) (by unfold Func.isWrapper; first | (rw [if_pos (by decide +kernel)]; kernel_rfl) | (rw [if_neg (by decide +kernel)]; exact ⟨rfl, rfl⟩))
    (fun os started H enc _ => law_ret_laid (C := Tryd.checked) (tb := 4) (laid := laidM) own started (by kernel_rfl) Tryd.func3
      (ChangeSpec.witness_shaped (enc := enc) (C := Tryd.checked) (os := os) (X := fun w _ => laidMetH Tryd.prog laidM w) false (World.doorLaid Tryd.prog 20 os) #[.slice none 0 0, .string ⟨#[]⟩] 8 rfl (World.shaped_of_RefB (by kernel_rfl) (by kernel_rfl)) (by kernel_rfl) (by kernel_rfl) (by kernel_rfl) (door_met os _))
      rfl scriptCodes_spec laidOut (by kernel_rfl) (by kernel_rfl) Tryd.underlying4 scriptCodes_call)

theorem scriptCodes_plain (f : FuncId) (fn : Func) (hf : Tryd.pinned.checked.prog.funcNamed "bellows/bellowslaw16.ScriptCodes" = some f) (hfn : Tryd.pinned.checked.prog.funcs[f]? = some fn) :
    false = Tryd.pinned.checked.prog.looks [] ∧ ∀ (j : Nat) t, fn.params[j]? = some t → Tryd.pinned.checked.prog.wantsStandIn t = false := by
  obtain rfl : f = 3 := Option.some.inj ((show Tryd.prog.funcNamed "bellows/bellowslaw16.ScriptCodes" = some 3 by kernel_rfl).symm.trans hf) |>.symm
  obtain rfl : fn = Tryd.f3 := (Option.some.inj (Tryd.func3.symm.trans hfn)).symm
  refine ⟨by kernel_rfl, fun j t ht => ?_⟩
  rw [Tryd.params3] at ht
  have hm : t = 22 ∨ t = 9 := by simpa using Array.mem_of_getElem? ht
  rcases hm with rfl | rfl
  all_goals exact (show Tryd.prog.wantsStandIn _ = false by kernel_rfl)
theorem scriptCodes_card : Rows.ScriptCodesCardSaid :=
  Claim7.holds_tied_plain_at .later [] _ _ _ _ scriptCodes_said (fun _ h => by cases h) (by kernel_rfl) (fun _ h => by cases h) scriptCodes_row_tie rfl ⟨rfl, rfl⟩ (by kernel_rfl) rfl scriptCodes_plain (by kernel_rfl)
#print axioms scriptCodes_card

theorem scriptRounds_spec {H : Type} : ∀ ds : List (DataW H), ds.length = Tryd.f4.params.toList.length → Rows.scriptRoundsSpec.fn H ds = { results := [.lit (.bool true)], args := ds } := by
  intro ds h
  rw [show Tryd.f4.params.toList.length = 1 by kernel_rfl] at h
  match ds, h with
  | [d1], _ => rfl

theorem scriptRounds_call {H : Type} {enc : TypeId × Value → H} : ∀ (W : World) (base : Nat) (args : Array Value) (ds : List (DataW H)) (ps : List MemPlace),
      (∀ (j : Nat) t v, Tryd.f4.params[j]? = some t → args[j]? = some v → Value.okWide Tryd.checked.prog W .any base t v) →
      DataW.TrodAll enc Tryd.checked.prog W 0 (fun _ => true) true Tryd.f4.params.toList args.toList ds ps → (∀ x ∈ ps, x.block < W.heap.size) → W.noneFrozen ps →
      (DataW.weightsEach Tryd.checked.prog Tryd.f4.params.toList ds).all (· ≤ reachBytes) = true → laidMetH Tryd.checked.prog laidM W →
      Calls Tryd.checked.prog 4 args W fun e W' => e = .returned (.bool true) ∧ Below W.heap.size W W' := by
  intro W base args ds ps hval0 hA0 hlt hfz hsz hL
  have ht := tab_of_laid hL
  have hval : ∀ (j : Nat) t v, Tryd.f4.params[j]? = some t → args[j]? = some v → Value.okWide Tryd.prog W .any base t v := hval0
  have hA : DataW.TrodAll enc Tryd.prog W 0 (fun _ => true) true Tryd.f4.params.toList args.toList ds ps := hA0
  rw [Tryd.params4] at hA hval
  obtain ⟨v0, vs0, d0, ds0, p0, q0, hargs, rfl, rfl, h0, r0⟩ := trodAll_cons hA
  obtain ⟨rfl, rfl, rfl⟩ := trodAll_nil r0
  obtain rfl : args = #[v0] := by cases args; simp_all
  clear hA0 hval0 hsz hfz hlt
  obtain ⟨cs, rfl, hkc⟩ := open_row (by rw [Tryd.underlying36]) kinds_cfg (hval 0 36 _ rfl rfl) h0
  obtain ⟨c0, l0, r0', hr, he⟩ := cfg_cells hkc
  rw [he]
  exact (krounds_any c0 l0 r0' hr W ht).mono fun e w' h => to_below h

set_option maxRecDepth 100000 in
theorem scriptRounds_said : Rows.ScriptRoundsSaid :=
  OpenClaim.holds_of_wide 4 Tryd.f4 rfl rfl rfl rfl rfl rfl rfl ⟨rfl, rfl, rfl, rfl, rfl⟩ rfl rfl rfl rfl rfl (by kernel_rfl) Tryd.func4 (by kernel_rfl)
    (of_decide_eq_true (by kernel_rfl)) (by unfold Func.isWrapper; first | (rw [if_pos (by decide +kernel)]; kernel_rfl) | (rw [if_neg (by decide +kernel)]; exact ⟨rfl, rfl⟩))
    (fun os started H enc _ => law_ret_laid (C := Tryd.checked) (tb := 4) (laid := laidM) own started (by kernel_rfl) Tryd.func4
      (ChangeSpec.witness_shaped (enc := enc) (C := Tryd.checked) (os := os) (X := fun w _ => laidMetH Tryd.prog laidM w) false (World.doorLaid Tryd.prog 20 os) #[.agg #[.int .i64 0, .int .i64 0, .int .i64 0, .int .i64 0, .int .i64 0, .int .i64 0, .int .i64 0]] 8 rfl (World.shaped_of_RefB (by kernel_rfl) (by kernel_rfl)) (by kernel_rfl) (by kernel_rfl) (by kernel_rfl) (door_met os _))
      rfl scriptRounds_spec laidOut (by kernel_rfl) (by kernel_rfl) Tryd.underlying4 scriptRounds_call)

theorem scriptRounds_plain (f : FuncId) (fn : Func) (hf : Tryd.pinned.checked.prog.funcNamed "bellows/bellowslaw16.ScriptRounds" = some f) (hfn : Tryd.pinned.checked.prog.funcs[f]? = some fn) :
    false = Tryd.pinned.checked.prog.looks [] ∧ ∀ (j : Nat) t, fn.params[j]? = some t → Tryd.pinned.checked.prog.wantsStandIn t = false := by
  obtain rfl : f = 4 := Option.some.inj ((show Tryd.prog.funcNamed "bellows/bellowslaw16.ScriptRounds" = some 4 by kernel_rfl).symm.trans hf) |>.symm
  obtain rfl : fn = Tryd.f4 := (Option.some.inj (Tryd.func4.symm.trans hfn)).symm
  refine ⟨by kernel_rfl, fun j t ht => ?_⟩
  rw [Tryd.params4] at ht
  have hm : t = 36 := by simpa using Array.mem_of_getElem? ht
  rcases hm with rfl
  all_goals exact (show Tryd.prog.wantsStandIn _ = false by kernel_rfl)
theorem scriptRounds_card : Rows.ScriptRoundsCardSaid :=
  Claim7.holds_tied_plain_at .later [] _ _ _ _ scriptRounds_said (fun _ h => by cases h) (by kernel_rfl) (fun _ h => by cases h) scriptRounds_row_tie rfl ⟨rfl, rfl⟩ (by kernel_rfl) rfl scriptRounds_plain (by kernel_rfl)
#print axioms scriptRounds_card

theorem scriptBack_spec {H : Type} : ∀ ds : List (DataW H), ds.length = Tryd.f5.params.toList.length → Rows.scriptBackSpec.fn H ds = { results := [.lit (.bool true)], args := ds } := by
  intro ds h
  rw [show Tryd.f5.params.toList.length = 2 by kernel_rfl] at h
  match ds, h with
  | [d1, d2], _ => rfl

theorem scriptBack_call {H : Type} {enc : TypeId × Value → H} : ∀ (W : World) (base : Nat) (args : Array Value) (ds : List (DataW H)) (ps : List MemPlace),
      (∀ (j : Nat) t v, Tryd.f5.params[j]? = some t → args[j]? = some v → Value.okWide Tryd.checked.prog W .any base t v) →
      DataW.TrodAll enc Tryd.checked.prog W 0 (fun _ => true) true Tryd.f5.params.toList args.toList ds ps → (∀ x ∈ ps, x.block < W.heap.size) → W.noneFrozen ps →
      (DataW.weightsEach Tryd.checked.prog Tryd.f5.params.toList ds).all (· ≤ reachBytes) = true → laidMetH Tryd.checked.prog laidM W →
      Calls Tryd.checked.prog 5 args W fun e W' => e = .returned (.bool true) ∧ Below W.heap.size W W' := by
  intro W base args ds ps hval0 hA0 hlt hfz hsz hL
  have ht := tab_of_laid hL
  have hval : ∀ (j : Nat) t v, Tryd.f5.params[j]? = some t → args[j]? = some v → Value.okWide Tryd.prog W .any base t v := hval0
  have hA : DataW.TrodAll enc Tryd.prog W 0 (fun _ => true) true Tryd.f5.params.toList args.toList ds ps := hA0
  rw [Tryd.params5] at hA hval
  obtain ⟨v0, vs0, d0, ds0, p0, q0, hargs, rfl, rfl, h0, r0⟩ := trodAll_cons hA
  obtain ⟨v1, vs1, d1, ds1, p1, q1, rfl, rfl, rfl, h1, r1⟩ := trodAll_cons r0
  obtain ⟨rfl, rfl, rfl⟩ := trodAll_nil r1
  obtain rfl : args = #[v0, v1] := by cases args; simp_all
  clear hA0 hval0 hsz hfz hlt
  obtain ⟨A, n, c, xs, rfl, hn, hc, hs, _, hk⟩ := (open_sl Tryd.underlying22 kinds_acts (hval 0 22 _ rfl rfl) h0).rows
  obtain ⟨l, hl, rfl⟩ := acts_of n xs hs.1 hk
  obtain ⟨s, rfl, rfl, rfl, _⟩ := open_string Tryd.underlying9 (hval 1 9 _ rfl rfl) h1
  rw [str_list s]
  exact (kback_any _ W ht hs hl).mono fun e w' h => to_below h

set_option maxRecDepth 100000 in
theorem scriptBack_said : Rows.ScriptBackSaid :=
  OpenClaim.holds_of_wide 5 Tryd.f5 rfl rfl rfl rfl rfl rfl rfl ⟨rfl, rfl, rfl, rfl, rfl⟩ rfl rfl rfl rfl rfl (by kernel_rfl) Tryd.func5 (by kernel_rfl)
    (of_decide_eq_true (by kernel_rfl)) (by unfold Func.isWrapper; first | (rw [if_pos (by decide +kernel)]; kernel_rfl) | (rw [if_neg (by decide +kernel)]; exact ⟨rfl, rfl⟩))
    (fun os started H enc _ => law_ret_laid (C := Tryd.checked) (tb := 4) (laid := laidM) own started (by kernel_rfl) Tryd.func5
      (ChangeSpec.witness_shaped (enc := enc) (C := Tryd.checked) (os := os) (X := fun w _ => laidMetH Tryd.prog laidM w) false (World.doorLaid Tryd.prog 20 os) #[.slice none 0 0, .string ⟨#[]⟩] 8 rfl (World.shaped_of_RefB (by kernel_rfl) (by kernel_rfl)) (by kernel_rfl) (by kernel_rfl) (by kernel_rfl) (door_met os _))
      rfl scriptBack_spec laidOut (by kernel_rfl) (by kernel_rfl) Tryd.underlying4 scriptBack_call)

theorem scriptBack_plain (f : FuncId) (fn : Func) (hf : Tryd.pinned.checked.prog.funcNamed "bellows/bellowslaw16.ScriptBack" = some f) (hfn : Tryd.pinned.checked.prog.funcs[f]? = some fn) :
    false = Tryd.pinned.checked.prog.looks [] ∧ ∀ (j : Nat) t, fn.params[j]? = some t → Tryd.pinned.checked.prog.wantsStandIn t = false := by
  obtain rfl : f = 5 := Option.some.inj ((show Tryd.prog.funcNamed "bellows/bellowslaw16.ScriptBack" = some 5 by kernel_rfl).symm.trans hf) |>.symm
  obtain rfl : fn = Tryd.f5 := (Option.some.inj (Tryd.func5.symm.trans hfn)).symm
  refine ⟨by kernel_rfl, fun j t ht => ?_⟩
  rw [Tryd.params5] at ht
  have hm : t = 22 ∨ t = 9 := by simpa using Array.mem_of_getElem? ht
  rcases hm with rfl | rfl
  all_goals exact (show Tryd.prog.wantsStandIn _ = false by kernel_rfl)
theorem scriptBack_card : Rows.ScriptBackCardSaid :=
  Claim7.holds_tied_plain_at .later [] _ _ _ _ scriptBack_said (fun _ h => by cases h) (by kernel_rfl) (fun _ h => by cases h) scriptBack_row_tie rfl ⟨rfl, rfl⟩ (by kernel_rfl) rfl scriptBack_plain (by kernel_rfl)
#print axioms scriptBack_card

theorem scriptPieces_spec {H : Type} : ∀ ds : List (DataW H), ds.length = Tryd.f6.params.toList.length → Rows.scriptPiecesSpec.fn H ds = { results := [.lit (.bool true)], args := ds } := by
  intro ds h
  rw [show Tryd.f6.params.toList.length = 3 by kernel_rfl] at h
  match ds, h with
  | [d1, d2, d3], _ => rfl

theorem scriptPieces_call {H : Type} {enc : TypeId × Value → H} : ∀ (W : World) (base : Nat) (args : Array Value) (ds : List (DataW H)) (ps : List MemPlace),
      (∀ (j : Nat) t v, Tryd.f6.params[j]? = some t → args[j]? = some v → Value.okWide Tryd.checked.prog W .any base t v) →
      DataW.TrodAll enc Tryd.checked.prog W 0 (fun _ => true) true Tryd.f6.params.toList args.toList ds ps → (∀ x ∈ ps, x.block < W.heap.size) → W.noneFrozen ps →
      (DataW.weightsEach Tryd.checked.prog Tryd.f6.params.toList ds).all (· ≤ reachBytes) = true → laidMetH Tryd.checked.prog laidM W →
      Calls Tryd.checked.prog 6 args W fun e W' => e = .returned (.bool true) ∧ Below W.heap.size W W' := by
  intro W base args ds ps hval0 hA0 hlt hfz hsz hL
  have ht := tab_of_laid hL
  have hval : ∀ (j : Nat) t v, Tryd.f6.params[j]? = some t → args[j]? = some v → Value.okWide Tryd.prog W .any base t v := hval0
  have hA : DataW.TrodAll enc Tryd.prog W 0 (fun _ => true) true Tryd.f6.params.toList args.toList ds ps := hA0
  rw [Tryd.params6] at hA hval
  obtain ⟨v0, vs0, d0, ds0, p0, q0, hargs, rfl, rfl, h0, r0⟩ := trodAll_cons hA
  obtain ⟨v1, vs1, d1, ds1, p1, q1, rfl, rfl, rfl, h1, r1⟩ := trodAll_cons r0
  obtain ⟨v2, vs2, d2, ds2, p2, q2, rfl, rfl, rfl, h2, r2⟩ := trodAll_cons r1
  obtain ⟨rfl, rfl, rfl⟩ := trodAll_nil r2
  obtain rfl : args = #[v0, v1, v2] := by cases args; simp_all
  clear hA0 hval0 hsz hfz hlt
  obtain ⟨s, rfl, rfl, rfl, _⟩ := open_string Tryd.underlying9 (hval 0 9 _ rfl rfl) h0
  rw [str_list s]
  obtain ⟨s', rfl, rfl, rfl, _⟩ := open_string Tryd.underlying9 (hval 1 9 _ rfl rfl) h1
  rw [str_list s']
  obtain ⟨cs, rfl, hkc⟩ := open_row (by rw [Tryd.underlying36]) kinds_cfg (hval 2 36 _ rfl rfl) h2
  obtain ⟨c0, l0, r0', hr, he⟩ := cfg_cells hkc
  rw [he]
  exact (kpieces_any _ _ c0 l0 r0' hr W ht).mono fun e w' h => to_below h

set_option maxRecDepth 100000 in
theorem scriptPieces_said : Rows.ScriptPiecesSaid :=
  OpenClaim.holds_of_wide 6 Tryd.f6 rfl rfl rfl rfl rfl rfl rfl ⟨rfl, rfl, rfl, rfl, rfl⟩ rfl rfl rfl rfl rfl (by kernel_rfl) Tryd.func6 (by kernel_rfl)
    (of_decide_eq_true (by kernel_rfl)) (by unfold Func.isWrapper; first | (rw [if_pos (by decide +kernel)]; kernel_rfl) | (rw [if_neg (by decide +kernel)]; exact ⟨rfl, rfl⟩))
    (fun os started H enc _ => law_ret_laid (C := Tryd.checked) (tb := 4) (laid := laidM) own started (by kernel_rfl) Tryd.func6
      (ChangeSpec.witness_shaped (enc := enc) (C := Tryd.checked) (os := os) (X := fun w _ => laidMetH Tryd.prog laidM w) false (World.doorLaid Tryd.prog 20 os) #[.string ⟨#[]⟩, .string ⟨#[]⟩, .agg #[.int .i64 0, .int .i64 0, .int .i64 0, .int .i64 0, .int .i64 0, .int .i64 0, .int .i64 0]] 8 rfl (World.shaped_of_RefB (by kernel_rfl) (by kernel_rfl)) (by kernel_rfl) (by kernel_rfl) (by kernel_rfl) (door_met os _))
      rfl scriptPieces_spec laidOut (by kernel_rfl) (by kernel_rfl) Tryd.underlying4 scriptPieces_call)

theorem scriptPieces_plain (f : FuncId) (fn : Func) (hf : Tryd.pinned.checked.prog.funcNamed "bellows/bellowslaw16.ScriptPieces" = some f) (hfn : Tryd.pinned.checked.prog.funcs[f]? = some fn) :
    false = Tryd.pinned.checked.prog.looks [] ∧ ∀ (j : Nat) t, fn.params[j]? = some t → Tryd.pinned.checked.prog.wantsStandIn t = false := by
  obtain rfl : f = 6 := Option.some.inj ((show Tryd.prog.funcNamed "bellows/bellowslaw16.ScriptPieces" = some 6 by kernel_rfl).symm.trans hf) |>.symm
  obtain rfl : fn = Tryd.f6 := (Option.some.inj (Tryd.func6.symm.trans hfn)).symm
  refine ⟨by kernel_rfl, fun j t ht => ?_⟩
  rw [Tryd.params6] at ht
  have hm : t = 9 ∨ t = 36 := by simpa using Array.mem_of_getElem? ht
  rcases hm with rfl | rfl
  all_goals exact (show Tryd.prog.wantsStandIn _ = false by kernel_rfl)
theorem scriptPieces_card : Rows.ScriptPiecesCardSaid :=
  Claim7.holds_tied_plain_at .later [] _ _ _ _ scriptPieces_said (fun _ h => by cases h) (by kernel_rfl) (fun _ h => by cases h) scriptPieces_row_tie rfl ⟨rfl, rfl⟩ (by kernel_rfl) rfl scriptPieces_plain (by kernel_rfl)
#print axioms scriptPieces_card
end Go.Proofs.YtapkjbefdooclaaDoor
