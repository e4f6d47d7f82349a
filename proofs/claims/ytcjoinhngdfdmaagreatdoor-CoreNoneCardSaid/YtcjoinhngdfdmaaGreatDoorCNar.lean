/- A statement of layer 13, with the table of what a kind of messages may have tied to the program's text: for every argument. No condition. -/
import Derived.Test.YtcjoinhngdfdmaaGreatDoorCNaa
import Derived.Test.YtcjoinhngdfdmaaGreatDoorCNab
import Derived.Test.YtcjoinhngdfdmaaGreatDoorCNaq
import Derived.LaidMore
import Derived.SevenTiedAt
import Derived.Test.YtcjoinhngdfdmaaGreatDoorCards
import Derived.Test.YtcjoinhngdfdmaaGreatDoorTie
section
namespace Go.Proofs.YtcjoinhngdfdmaaGreatDoor
open Go.ChangeShapes Go.WideShapes Go.ChangeAt Go.RowKit
set_option linter.unusedVariables false


theorem own : ownKnob Tryz.prog.godebug = none := by kernel_rfl
theorem laidOut : laidOutB Tryz.prog = true := by kernel_rfl

def laidM : List (String × DataW Unit) := [("bellows/msg.mayHave", Rows.laid_bellows_msg_mayHave)]
theorem gMay : Tryz.prog.globalNamed "bellows/msg.mayHave" = some 1 := by kernel_rfl
theorem tMay : (Tryz.prog.globals[1]?).map (·.type) = some 240 := by kernel_rfl
theorem flatMay : flat (H := Unit) Rows.laid_bellows_msg_mayHave = tabL := by rfl
theorem tab_of_laid {W : World} (h : laidMetH Tryz.prog laidM W) : Tab W := by
  have := block_of_laid (n := 9) gMay tMay (by kernel_rfl) (by kernel_rfl) h
  rw [flatMay] at this
  exact this
set_option maxRecDepth 100000 in
theorem door_met (os : Os) (args : Array Value) : laidMetH Tryz.prog laidM ((World.doorLaid Tryz.prog 300 os).forCall (fun _ _ => 0) ⟨#[], args, []⟩).memory :=
  laidMetH_of_parts3 (fuel := 8) (laidMet_of_run' 8 (by kernel_rfl) (by kernel_rfl)) (by kernel_rfl) (by kernel_rfl)
def kMsg : List Kd := .int .i64 :: .int .i64 :: .bool :: .bool :: kLine
theorem msg_cells {w : World} {cs : List Value} (h : AreKd w kMsg cs) : ∃ m : Ms, cs = Ms.enc m := by
  obtain ⟨v0, c0, rfl, h0, hA⟩ := AreKd.head h
  obtain ⟨v1, c1, rfl, h1, hB⟩ := AreKd.head hA
  obtain ⟨v2, c2, rfl, h2, hC⟩ := AreKd.head hB
  obtain ⟨v3, c3, rfl, h3, hD⟩ := AreKd.head hC
  simp only [IsKd] at h0 h1 h2 h3
  obtain ⟨kd, rfl, _⟩ := h0
  obtain ⟨li, rfl, _⟩ := h1
  obtain ⟨di, rfl⟩ := h2
  obtain ⟨ke, rfl⟩ := h3
  obtain ⟨ns, hl, rfl, _⟩ := AreKd.ints (m := 8) hD
  exact ⟨⟨kd, li, di, ke, ns, hl⟩, rfl⟩
theorem kinds_msg : kinds Tryz.prog 9 50 = some kMsg := by kernel_rfl
theorem kinds_words : kinds Tryz.prog 9 37 = some [.slice [.int .u64]] := by kernel_rfl
theorem bounds_u64 {n : Int} (h : (Lit.int .u64 n).wf = true) : 0 ≤ n ∧ n < 18446744073709551616 := by
  simp [Lit.wf, IntKind.min, IntKind.max, IntKind.signed, IntKind.bits] at h
  omega
theorem to_below {e : Ending} {W w' : World} (h : e = .returned (.bool true) ∧ Chg [] W w') : e = .returned (.bool true) ∧ Below W.heap.size W w' := ⟨h.1, h.2.below (Nat.le_refl _) (by simp)⟩

theorem coreNone_spec {H : Type} : ∀ ds : List (DataW H), ds.length = Tryz.f5.params.toList.length → Rows.coreNoneSpec.fn H ds = { results := [.lit (.bool true)], args := ds } := by
  intro ds h
  rw [show Tryz.f5.params.toList.length = 2 by kernel_rfl] at h
  match ds, h with
  | [d1, d2], _ => rfl

set_option maxRecDepth 100000 in
theorem coreNone_call {H : Type} {enc : TypeId × Value → H} : ∀ (W : World) (base : Nat) (args : Array Value) (ds : List (DataW H)) (ps : List MemPlace),
      (∀ (j : Nat) t v, Tryz.f5.params[j]? = some t → args[j]? = some v → Value.okWide Tryz.checked.prog W .any base t v) →
      DataW.TrodAll enc Tryz.checked.prog W 0 (fun _ => true) true Tryz.f5.params.toList args.toList ds ps → (∀ x ∈ ps, x.block < W.heap.size) → W.noneFrozen ps →
      (DataW.weightsEach Tryz.checked.prog Tryz.f5.params.toList ds).all (· ≤ reachBytes) = true → laidMetH Tryz.checked.prog laidM W →
      Calls Tryz.checked.prog 5 args W fun e W' => e = .returned (.bool true) ∧ Below W.heap.size W W' := by
  intro W base args ds ps hval0 hA0 hlt hfz hsz hL
  have ht := tab_of_laid hL
  have hval : ∀ (j : Nat) t v, Tryz.f5.params[j]? = some t → args[j]? = some v → Value.okWide Tryz.prog W .any base t v := hval0
  have hA : DataW.TrodAll enc Tryz.prog W 0 (fun _ => true) true Tryz.f5.params.toList args.toList ds ps := hA0
  rw [Tryz.params5] at hA hval
  obtain ⟨v0, vs0, d0, ds0, p0, q0, hargs, rfl, rfl, h0, r0⟩ := trodAll_cons hA
  obtain ⟨v1, vs1, d1, ds1, p1, q1, rfl, rfl, rfl, h1, r1⟩ := trodAll_cons r0
  obtain ⟨rfl, rfl, rfl⟩ := trodAll_nil r1
  obtain rfl : args = #[v0, v1] := by cases args; simp_all
  clear hA0 hval0 hsz hfz hlt
  obtain ⟨cs, rfl, hk⟩ := open_row (by rw [Tryz.underlying50]) kinds_msg (hval 0 50 _ rfl rfl) h0
  obtain ⟨m, rfl⟩ := msg_cells hk
  obtain ⟨A, n, c, xs, rfl, hn, hc, hs, hx⟩ := (open_sl Tryz.underlying37 kinds_words (hval 1 37 _ rfl rfl) h1).ints
  exact (cnone m ht hs (by simpa using hs.1) (fun u hu => bounds_u64 (hx u hu))).mono fun e w' h => to_below h

set_option maxRecDepth 100000 in
theorem coreNone_said : Rows.CoreNoneSaid :=
  OpenClaim.holds_of_wide 5 Tryz.f5 rfl rfl rfl rfl rfl rfl rfl ⟨rfl, rfl, rfl, rfl, rfl⟩ rfl rfl rfl rfl rfl (by kernel_rfl) Tryz.func5 (by kernel_rfl)
    (of_decide_eq_true (by kernel_rfl)) (by unfold Func.isWrapper; first | (rw [if_pos (by decide +kernel)]; kernel_rfl) | (rw [if_neg (by decide +kernel)]; exact ⟨rfl, rfl⟩))
    (fun os started H enc _ => law_ret_laid (C := Tryz.checked) (tb := 4) (laid := laidM) own started (by kernel_rfl) Tryz.func5
      (ChangeSpec.witness_shaped (enc := enc) (C := Tryz.checked) (os := os) (X := fun w _ => laidMetH Tryz.prog laidM w) false (World.doorLaid Tryz.prog 300 os) #[.agg #[.int .i64 0, .int .i64 0, .bool false, .bool false, .int .u64 0, .int .u64 0, .int .u64 0, .int .u64 0, .int .u64 0, .int .u64 0, .int .u64 0, .int .u64 0], .slice none 0 0] 8 rfl (World.shaped_of_RefB (by kernel_rfl) (by kernel_rfl)) (by kernel_rfl) (by kernel_rfl) (by kernel_rfl) (door_met os _))
      rfl coreNone_spec laidOut (by kernel_rfl) (by kernel_rfl) Tryz.underlying4 coreNone_call)

theorem coreNone_plain (f : FuncId) (fn : Func) (hf : Tryz.pinned.checked.prog.funcNamed "bellows/bellowslaw13.CoreNone" = some f) (hfn : Tryz.pinned.checked.prog.funcs[f]? = some fn) :
    false = Tryz.pinned.checked.prog.looks [] ∧ ∀ (j : Nat) t, fn.params[j]? = some t → Tryz.pinned.checked.prog.wantsStandIn t = false := by
  obtain rfl : f = 5 := Option.some.inj ((show Tryz.prog.funcNamed "bellows/bellowslaw13.CoreNone" = some 5 by kernel_rfl).symm.trans hf) |>.symm
  obtain rfl : fn = Tryz.f5 := (Option.some.inj (Tryz.func5.symm.trans hfn)).symm
  refine ⟨by kernel_rfl, fun j t ht => ?_⟩
  rw [Tryz.params5] at ht
  have hm : t = 50 ∨ t = 37 := by simpa using Array.mem_of_getElem? ht
  rcases hm with rfl | rfl
  all_goals exact (show Tryz.prog.wantsStandIn _ = false by kernel_rfl)
theorem coreNone_card : Rows.CoreNoneCardSaid :=
  Claim7.holds_tied_plain_at .later [] _ _ _ _ coreNone_said (fun _ h => by cases h) (by kernel_rfl) (fun _ h => by cases h) coreNone_row_tie rfl ⟨rfl, rfl⟩ (by kernel_rfl) rfl coreNone_plain (by kernel_rfl)
#print axioms coreNone_card
end Go.Proofs.YtcjoinhngdfdmaaGreatDoor
end
