/- What a statement of layer 13 needs further, and for the last file the statement itself: for every argument. No condition. -/
import Derived.Test.YtcjoinhngdfdmaaGreatDoorCLar
import Derived.Test.YtcjoinhngdfdmaaGreatDoorCLaa
import Derived.Test.YtcjoinhngdfdmaaGreatDoorCLab
import Derived.Test.YtcjoinhngdfdmaaGreatDoorCLac
import Derived.Test.YtcjoinhngdfdmaaGreatDoorCLad
import Derived.Test.YtcjoinhngdfdmaaGreatDoorCLae
import Derived.Test.YtcjoinhngdfdmaaGreatDoorCLaf
import Derived.Test.YtcjoinhngdfdmaaGreatDoorCLag
import Derived.Test.YtcjoinhngdfdmaaGreatDoorCLah
import Derived.Test.YtcjoinhngdfdmaaGreatDoorCLai
import Derived.Test.YtcjoinhngdfdmaaGreatDoorCLaj
import Derived.Test.YtcjoinhngdfdmaaGreatDoorCLak
import Derived.Test.YtcjoinhngdfdmaaGreatDoorCLal
import Derived.Test.YtcjoinhngdfdmaaGreatDoorCLam
import Derived.Test.YtcjoinhngdfdmaaGreatDoorCLan
import Derived.Test.YtcjoinhngdfdmaaGreatDoorCLao
import Derived.Test.YtcjoinhngdfdmaaGreatDoorCLap
import Derived.Test.YtcjoinhngdfdmaaGreatDoorCLaq
import Derived.Below
import Derived.BigQuiet
import Derived.ChangeAlike
import Derived.ChangeArms
import Derived.ChangeKeysEq
import Derived.Deep.Cut
import Derived.Deep.CutBlock
import Derived.Deep.CutRange
import Derived.Deep.DeepCutAuto
import Derived.Deep.MidRow
import Derived.Deep.Quiet
import Derived.Deep.QuietTactic
import Derived.Deep.RegionHeld3
import Derived.Deep.RegionLaw
import Derived.Deep.RegionWith
import Derived.DeepKeys
import Derived.Defers
import Derived.IntWalk
import Derived.Laws.Bits64b
import Derived.Laws.BitsAllLaws
import Derived.Laws.Entries
import Derived.Laws.LoneSync
import Derived.Laws.NewBlocks
import Derived.Laws.Pointers
import Derived.Laws.StructEq
import Derived.Lib.Hide
import Derived.Lib.SliceRun
import Derived.Maps.OwnOps
import Derived.OpenShut
import Derived.ProofKit
import Derived.RegionCalls
import Derived.RegionTactic
import Derived.StillTail
import Derived.StillTailTactics
import Derived.Tactics
import Derived.Tactics2
import Derived.Test.YtcjoinhngdfdmaaGreatDoorChecked
import Derived.WalkKit
import Derived.WideShapes
section
namespace Go.Proofs.YtcjoinhngdfdmaaGreatDoor
open Go.RowKit
set_option linter.unusedVariables false
set_option maxHeartbeats 1000000

/-! ### The operations, one by one -/
theorem fadd (x y : Int) (w : World) : Calls Tryz.prog 127 #[.int .u64 x, .int .u64 y] w fun e w' => e = .returned (.int .u64 (IntKind.u64.wrap (x + y))) ∧ w = w' := by
  go_enter Tryz.func127, Tryz.ntmps127
  go_wp2
  go_ret
  exact ⟨rfl, rfl⟩
theorem fsub (x y : Int) (w : World) : Calls Tryz.prog 128 #[.int .u64 x, .int .u64 y] w fun e w' => e = .returned (.int .u64 (IntKind.u64.wrap (x - y))) ∧ w = w' := by
  go_enter Tryz.func128, Tryz.ntmps128
  go_wp2
  go_ret
  exact ⟨rfl, rfl⟩
theorem fand (x y : Int) (w : World) : Calls Tryz.prog 129 #[.int .u64 x, .int .u64 y] w fun e w' => e = .returned (.int .u64 (bits .and .u64 x y)) ∧ w = w' := by
  go_enter Tryz.func129, Tryz.ntmps129
  go_wp2
  go_ret
  exact ⟨rfl, rfl⟩
theorem fxor (x y : Int) (w : World) : Calls Tryz.prog 130 #[.int .u64 x, .int .u64 y] w fun e w' => e = .returned (.int .u64 (bits .xor .u64 x y)) ∧ w = w' := by
  go_enter Tryz.func130, Tryz.ntmps130
  go_wp2
  go_ret
  exact ⟨rfl, rfl⟩
theorem fshl (x y : Int) (hy : 0 ≤ y) (w : World) : Calls Tryz.prog 131 #[.int .u64 x, .int .u64 y] w fun e w' => e = .returned (.int .u64 (IntKind.u64.wrap (x * 2 ^ (y % 64).toNat))) ∧ w = w' := by
  have h1 : 0 ≤ y % 64 := by omega
  have h2 : (y % 64).toNat < 64 := by omega
  go_enter Tryz.func131, Tryz.ntmps131
  go_wp2
  go_ret
  exact ⟨rfl, rfl⟩
theorem fshr (x y : Int) (hy : 0 ≤ y) (w : World) : Calls Tryz.prog 132 #[.int .u64 x, .int .u64 y] w fun e w' => e = .returned (.int .u64 (x / 2 ^ (y % 64).toNat)) ∧ w = w' := by
  have h1 : 0 ≤ y % 64 := by omega
  have h2 : (y % 64).toNat < 64 := by omega
  go_enter Tryz.func132, Tryz.ntmps132
  go_wp2
  go_ret
  exact ⟨rfl, rfl⟩
/-- Does it reckon? -/
def doK (op : Int) : Bool := decide (op = 2 ∨ op = 3 ∨ op = 4 ∨ op = 5 ∨ op = 6 ∨ op = 7)
theorem field_r (r g : Value) (w : World) : (Instr.field 176 (.agg #[r, g]) 0).run Tryz.prog w = .ok r w := by kernel_rfl
theorem some_r (n : Nat) (w : World) : (binOp .eql 173 (.func (.func n) #[] #[]) .nilFunc).run Tryz.prog w = .ok (.bool false) w := by kernel_rfl
theorem nil_r (w : World) : (binOp .eql 173 .nilFunc .nilFunc).run Tryz.prog w = .ok (.bool true) w := by kernel_rfl
theorem gdo_any (op b c : Int) (hc : 0 ≤ c) (w : World) : Calls Tryz.prog 43 #[.int .i64 op, .int .u64 b, .int .u64 c] w fun e w' => e = .returned (.tuple #[.int .u64 (doV op b c), .bool (doK op)]) ∧ w' = mapW w 10 := by
  have hl := look_map op w
  by_cases h2 : op = 2
  · subst h2
    rw [show recF 2 = .func (.func 127) #[] #[] from rfl] at hl
    have hf := field_r (.func (.func 127) #[] #[]) (goF 2) (mapW w 10)
    have hn := some_r 127 (mapW w 10)
    go_enter Tryz.func43, Tryz.ntmps43
    go_wp2_with (first | (go_at_call 79; refine (ops_any _).mono ?_; rintro e w' ⟨rfl, rfl⟩) | (go_at_call 127; refine (fadd _ _  _).mono ?_; rintro e w' ⟨rfl, rfl⟩))
    go_ret2
    exact ⟨rfl, rfl⟩
  by_cases h3 : op = 3
  · subst h3
    rw [show recF 3 = .func (.func 128) #[] #[] from rfl] at hl
    have hf := field_r (.func (.func 128) #[] #[]) (goF 3) (mapW w 10)
    have hn := some_r 128 (mapW w 10)
    go_enter Tryz.func43, Tryz.ntmps43
    go_wp2_with (first | (go_at_call 79; refine (ops_any _).mono ?_; rintro e w' ⟨rfl, rfl⟩) | (go_at_call 128; refine (fsub _ _  _).mono ?_; rintro e w' ⟨rfl, rfl⟩))
    go_ret2
    exact ⟨rfl, rfl⟩
  by_cases h4 : op = 4
  · subst h4
    rw [show recF 4 = .func (.func 129) #[] #[] from rfl] at hl
    have hf := field_r (.func (.func 129) #[] #[]) (goF 4) (mapW w 10)
    have hn := some_r 129 (mapW w 10)
    go_enter Tryz.func43, Tryz.ntmps43
    go_wp2_with (first | (go_at_call 79; refine (ops_any _).mono ?_; rintro e w' ⟨rfl, rfl⟩) | (go_at_call 129; refine (fand _ _  _).mono ?_; rintro e w' ⟨rfl, rfl⟩))
    go_ret2
    exact ⟨rfl, rfl⟩
  by_cases h5 : op = 5
  · subst h5
    rw [show recF 5 = .func (.func 130) #[] #[] from rfl] at hl
    have hf := field_r (.func (.func 130) #[] #[]) (goF 5) (mapW w 10)
    have hn := some_r 130 (mapW w 10)
    go_enter Tryz.func43, Tryz.ntmps43
    go_wp2_with (first | (go_at_call 79; refine (ops_any _).mono ?_; rintro e w' ⟨rfl, rfl⟩) | (go_at_call 130; refine (fxor _ _  _).mono ?_; rintro e w' ⟨rfl, rfl⟩))
    go_ret2
    exact ⟨rfl, rfl⟩
  by_cases h6 : op = 6
  · subst h6
    rw [show recF 6 = .func (.func 131) #[] #[] from rfl] at hl
    have hf := field_r (.func (.func 131) #[] #[]) (goF 6) (mapW w 10)
    have hn := some_r 131 (mapW w 10)
    go_enter Tryz.func43, Tryz.ntmps43
    go_wp2_with (first | (go_at_call 79; refine (ops_any _).mono ?_; rintro e w' ⟨rfl, rfl⟩) | (go_at_call 131; refine (fshl _ _ hc _).mono ?_; rintro e w' ⟨rfl, rfl⟩))
    go_ret2
    exact ⟨rfl, rfl⟩
  by_cases h7 : op = 7
  · subst h7
    rw [show recF 7 = .func (.func 132) #[] #[] from rfl] at hl
    have hf := field_r (.func (.func 132) #[] #[]) (goF 7) (mapW w 10)
    have hn := some_r 132 (mapW w 10)
    go_enter Tryz.func43, Tryz.ntmps43
    go_wp2_with (first | (go_at_call 79; refine (ops_any _).mono ?_; rintro e w' ⟨rfl, rfl⟩) | (go_at_call 132; refine (fshr _ _ hc _).mono ?_; rintro e w' ⟨rfl, rfl⟩))
    go_ret2
    exact ⟨rfl, rfl⟩
  rw [show recF op = .nilFunc by simp [recF, h2, h3, h4, h5, h6, h7]] at hl
  rw [show doV op b c = 0 by simp [doV, h2, h3, h4, h5, h6, h7], show doK op = false by simp [doK, h2, h3, h4, h5, h6, h7]]
  have hf := field_r .nilFunc (goF op) (mapW w 10)
  have hn := nil_r (mapW w 10)
  clear h2 h3 h4 h5 h6 h7
  go_enter Tryz.func43, Tryz.ntmps43
  go_wp2_with (go_at_call 79; refine (ops_any _).mono ?_; rintro e w' ⟨rfl, rfl⟩)
  go_ret2
  exact ⟨rfl, rfl⟩
end Go.Proofs.YtcjoinhngdfdmaaGreatDoor
end
section
namespace Go.Proofs.YtcjoinhngdfdmaaGreatDoor
open Go.RowKit
set_option linter.unusedVariables false
set_option maxHeartbeats 1000000

/-! ### What CoreLoops comes to -/
def pis (k : Int) : List Ins := [⟨1, 1, 0, 0, k⟩, ⟨1, 2, 0, 0, 1⟩, ⟨1, 3, 0, 0, 0⟩, ⟨21, 1, 0, 0, 0⟩, ⟨3, 1, 1, 2, 0⟩, ⟨19, 1, 3, 0, 3⟩, ⟨20, 3, 2, 0, 8⟩, ⟨21, 2, 0, 0, 0⟩, ⟨22, 0, 0, 0, 0⟩]
def pus (k : Int) : List Int := (pis k).map codeI
def ptl (k : Nat) : List Int := (List.range k).map fun (i : Nat) => (k : Int) - (i : Int)
def pchk (k : Nat) : Bool := (List.range (3 * k + 5)).all (fun i => (runA (pus k) i).Q.ru) && (!(runA (pus k) (3 * k + 5)).Q.ru && (decide (tellsA (runA (pus k) (3 * k + 5)).ev = ptl k) && (pis k).all goodI))
theorem pchk_all {k : Nat} (h1 : 1 ≤ k) (h2 : k ≤ 12) : pchk k = true := by
  rcases (show k = 1 ∨ k = 2 ∨ k = 3 ∨ k = 4 ∨ k = 5 ∨ k = 6 ∨ k = 7 ∨ k = 8 ∨ k = 9 ∨ k = 10 ∨ k = 11 ∨ k = 12 by omega) with rfl | rfl | rfl | rfl | rfl | rfl | rfl | rfl | rfl | rfl | rfl | rfl
  all_goals as_aux_lemma => kernel_rfl
theorem pfacts {k : Nat} (h1 : 1 ≤ k) (h2 : k ≤ 12) : (∀ i, i < 3 * k + 5 → (runA (pus k) i).Q.ru = true) ∧ (runA (pus k) (3 * k + 5)).Q.ru = false ∧ tellsA (runA (pus k) (3 * k + 5)).ev = ptl k ∧ ∀ i ∈ pis k, goodI i = true := by
  have h := pchk_all h1 h2
  unfold pchk at h
  simp only [Bool.and_eq_true, List.all_eq_true, List.mem_range, decide_eq_true_eq, Bool.not_eq_true'] at h
  exact ⟨h.1, h.2.1, h.2.2.1, h.2.2.2⟩
end Go.Proofs.YtcjoinhngdfdmaaGreatDoor
end
section
namespace Go.Proofs.YtcjoinhngdfdmaaGreatDoor
open Go.RowKit
set_option linter.unusedVariables false
set_option maxHeartbeats 1000000

/-! ### A region whose last operation waits for all others but one, which nobody waits for: one walk serves -/
section
variable {P : Program} {md : Region.Mode} {ops : Array Oper} {C : World → Prop}
/-- Each operation ahead of n, but u, is waited for by one behind it, which is not u. -/
def sinkU (md : Region.Mode) (ops : Array Oper) (n u : Nat) : Bool :=
  (List.range n).all fun i => decide (i = u) || (List.range (n + 1)).any fun j => decide (i < j) && decide (j ≠ u) && Region.waitsFor md ops j i
def lexTailU (md : Region.Mode) (ops : Array Oper) (n u : Nat) : Bool :=
  Region.noSelect ops && decide (ops.size = n + 1) && decide (u < n) && sinkU md ops n u && Region.lexHead md ops (ops.size - n) n 0 (Array.replicate ops.size false)
theorem waitsU {n u : Nat} {ls : Array Bool} (hn : n < ops.size) (hs : sinkU md ops n u = true) (inv : HeadInv md ops n ls) :
    ∀ (d i : Nat), n - i = d → i < n → i ≠ u → ls.getD i true = false → n ∉ Region.ready md ops ls := by
  intro d
  induction d using Nat.strongRecOn with
  | _ d ih =>
    intro i hd hi hiu hun hr
    obtain ⟨_, ot, hot, hall⟩ := mem_ready.1 hr
    have h1 := List.all_eq_true.1 hs i (List.mem_range.2 hi)
    simp only [Bool.or_eq_true, decide_eq_true_eq, hiu, false_or] at h1
    obtain ⟨j, hj, h2⟩ := List.any_eq_true.1 h1
    simp only [Bool.and_eq_true, decide_eq_true_eq] at h2
    obtain ⟨⟨hij, hju⟩, hwf⟩ := h2
    have hjn : j ≤ n := by have := List.mem_range.1 hj; omega
    obtain ⟨oj, hoj, e, he, hb, hon⟩ := Region.waitsFor_spec hwf
    by_cases hjt : j = n
    · subst hjt
      have : oj = ot := Option.some.inj (hoj.symm.trans hot)
      subst this
      have h2 := hall e he hb
      rw [hon, getD_both hun] at h2
      cases h2
    · cases hl : ls.getD j false with
      | true =>
        have h2 := inv.closed j oj hoj hl e he hb
        rw [hon, getD_both hun] at h2
        cases h2
      | false =>
        have hjs : j < ls.size := by rw [inv.size]; omega
        exact ih (n - j) (by omega) j rfl (by omega) hju (getD_in hjs hl) hr
/-- The ways through the first n operations, in every world of the class; where u alone is left, the last one may come first. -/
def waysU (P : Program) (md : Region.Mode) (ops : Array Oper) (C : World → Prop) (n u : Nat) (L : Array Bool → Act → Prop) : Nat → Array Bool → Act → Prop
  | 0, ls, a => L ls a
  | f + 1, ls, a => Region.ready md ops ls ≠ [] ∧ (∀ i ∈ Region.ready md ops ls, i < n → qOp P ops C i (waysU P md ops C n u L f (ls.setIfInBounds i true)) a) ∧
    ((∀ i ∈ Region.ready md ops ls, i < n) ∨ (f = 0 ∧ u ∈ Region.ready md ops ls ∧ ∃ ou v, ops[u]? = some ou ∧ Yields P ops ou v a ∧
      (∀ j oj, ops[j]? = some oj → j ≠ u → ls.getD j true = false → (∀ e ∈ oj.after, Region.binds md e = true → e.on ≠ u) → ou.apart ops oj = true) ∧ L (ls.setIfInBounds u true) (a.put ou.dst v)))
theorem waysU.any {n u g : Nat} {L : Array Bool → Act → Prop} {Q' : Exit → Act → World → Prop} (hsel : ∀ (j : Nat) (o : Oper) cs b, ops[j]? = some o → o.op ≠ .select cs b)
    (hQ : ∀ d v c a w, Q' (.panic c) (Act.put a d v) w → Q' (.panic c) a w) (hL : ∀ ls a w, C w → L ls a → wpAny P md ops Q' g ls a w) :
    ∀ (f : Nat) (ls : Array Bool) (a : Act) (w : World), C w → waysU P md ops C n u L f ls a → wpAny P md ops Q' (f + g) ls a w := by
  intro f
  induction f with
  | zero =>
    intro ls a w hw h
    rw [Nat.zero_add]
    exact hL ls a w hw h
  | succ f ih =>
    intro ls a w hw h
    obtain ⟨h1, h2, h3⟩ := h
    rcases h3 with h3 | ⟨rfl, hu, ou, v, hou, hy, hfree, hl⟩
    · rw [Nat.add_right_comm]
      exact ⟨fun e => (h1 e).elim, fun i hi => wpOp_of_qOp hw (fun a' w' hw' h' => ih _ a' w' hw' h') (h2 i hi (h3 i hi))⟩
    · rw [Nat.zero_add, Nat.add_comm]
      exact wpAny_first hou hsel (fun c a w => hQ ou.dst v c a w) g ls a w hfree hu hy (hL _ _ w hw hl)
theorem waysU.first {n u i : Nat} {oi : Oper} {v : Value} {L : Array Bool → Act → Prop} (hi : ops[i]? = some oi) (hsel : ∀ (j : Nat) (o : Oper) cs b, ops[j]? = some o → o.op ≠ .select cs b)
    (hs : sinkU md ops n u = true) (hsz : ops.size = n + 1) (hin : i < n) (hend : ∀ ls a, L ls a → ∀ j ∈ Region.ready md ops ls, n ≤ j) (hyu : i = u → ∀ a, YieldsIn P ops C oi v a → Yields P ops oi v a) :
    ∀ (f : Nat) (ls : Array Bool) (a : Act), HeadInv md ops n ls → (∀ j oj, ops[j]? = some oj → j ≠ i → ls.getD j true = false → (∀ e ∈ oj.after, Region.binds md e = true → e.on ≠ i) → oi.apart ops oj = true) →
      i ∈ Region.ready md ops ls → YieldsIn P ops C oi v a → waysU P md ops C n u L f (ls.setIfInBounds i true) (a.put oi.dst v) → waysU P md ops C n u L (f + 1) ls a := by
  have hlt : ∀ {ls : Array Bool} {j : Nat}, j ∈ Region.ready md ops ls → j ≠ n → j < n := fun hj hne => by
    obtain ⟨_, oj, hoj, _⟩ := mem_ready.1 hj
    have := (Array.getElem?_eq_some_iff.1 hoj).1
    omega
  intro f
  induction f with
  | zero =>
    intro ls a inv hfree hr hy H
    refine ⟨fun e => (by rw [e] at hr; cases hr), fun j hj hjn => ?_, ?_⟩
    · by_cases hji : j = i
      · rw [hji]; exact hy.qOp hi H
      · exact absurd hjn (Nat.not_lt_of_le (hend _ _ H j (ready_mono hj hji)))
    · by_cases hiu : i = u
      · subst hiu
        exact .inr ⟨rfl, hr, oi, v, hi, hyu rfl a hy, hfree, H⟩
      · exact .inl fun j hj => hlt hj fun e => waitsU (by omega) hs inv _ i rfl hin hiu (mem_ready.1 hr).1 (e ▸ hj)
  | succ f ih =>
    intro ls a inv hfree hr hy H
    refine ⟨fun e => (by rw [e] at hr; cases hr), fun j hj hjn => ?_, .inl fun j hj => hlt hj fun e => ?_⟩
    · by_cases hji : j = i
      · rw [hji]; exact hy.qOp hi H
      · obtain ⟨hju, oj, hoj, hall⟩ := mem_ready.1 hj
        have hno : ∀ e ∈ oj.after, Region.binds md e = true → e.on ≠ i := by
          intro e he hb heq
          have h1 := hall e he hb
          rw [heq, getD_both (mem_ready.1 hr).1] at h1
          cases h1
        refine qOp_mono (fun a' h3 => ih _ a' (inv.set hj hjn) ?_ (ready_mono hr (Ne.symm hji)) h3.1 ?_) (qOp_put hoj (hfree j oj hoj hji hju hno) (fun cs b => hsel i oi cs b hi) (fun cs b => hsel j oj cs b hoj) hy (H.2.1 j (ready_mono hj hji) hjn))
        · intro k ok hk hki hu hno2
          refine hfree k ok hk hki ?_ hno2
          by_cases hjk : j = k
          · rw [← hjk]; exact hju
          · rwa [getD_set_ne true hjk] at hu
        · rw [Array.setIfInBounds_comm _ _ hji]
          exact h3.2
    · subst e
      by_cases hiu : i = u
      · have hj' := ready_mono hj (show j ≠ i by omega)
        rcases H.2.2 with h3 | ⟨_, hu, _⟩
        · exact absurd (h3 j hj') (Nat.lt_irrefl _)
        · rw [← hiu] at hu
          have h4 := (mem_ready.1 hu).1
          have his : i < ls.size := by rw [inv.size]; omega
          simp [Array.getD, his] at h4
      · exact waitsU (by omega) hs inv _ i rfl hin hiu (mem_ready.1 hr).1 hj
theorem waysU.lex {n u g : Nat} {Lq : Act → Prop} (hsel : Region.noSelect ops = true) (hs : sinkU md ops n u = true) (hsz : ops.size = n + 1) (hyu : ∀ ou v a, ops[u]? = some ou → YieldsIn P ops C ou v a → Yields P ops ou v a) :
    ∀ (l : List Oper) (k : Nat) (ls : Array Bool) (a : Act), (∀ j, j < l.length → l[j]? = ops[k + j]?) → k + l.length = n → HeadInv md ops n ls → Region.lexHead md ops g l.length k ls = true → wpQuiet P ops C Lq l a →
      waysU P md ops C n u (fun ls' a' => Region.seqB md ops g n ls' = true ∧ Lq a') l.length ls a := by
  intro l
  induction l with
  | nil =>
    intro k ls a _ hk _ hB h
    have e : k = n := by simpa using hk
    rw [e] at hB
    exact ⟨by simpa [Region.lexHead] using hB, h⟩
  | cons o l ih =>
    intro k ls a hl hk inv hB h
    have h0 : ops[k]? = some o := by simpa using (hl 0 (by simp)).symm
    rw [List.length_cons] at hk hB
    simp only [Region.lexHead, Bool.and_eq_true] at hB
    have hkn : k < n := by omega
    have hr : k ∈ Region.ready md ops ls := by simpa using hB.1.1
    have hq : qOp P ops C k (wpQuiet P ops C Lq l) a := by unfold qOp; simp only [h0]; exact h
    obtain ⟨v, hy, hK⟩ := yieldsIn_of_qOp h0 hq
    exact waysU.first h0 (Region.noSelect_spec hsel) hs hsz hkn (fun ls' a' hL => seqB_ready hL.1) (fun e a' hy' => hyu o v a' (e ▸ h0) hy') l.length ls a inv (Region.free_spec h0 hB.1.2) hr hy
      (ih (k + 1) _ _ (fun j hj => by have := hl (j + 1) (by simp; omega); simpa [Nat.add_assoc, Nat.add_comm 1 j] using this) (by omega) (inv.set hr hkn) hB.2 hK)
/-- One walk of the first n operations, then the last one; u may come behind it. -/
theorem wp_region_aft_loose {id : Nat} {Q : Exit → Act → World → Prop} {a : Act} {w : World} {l : List Oper} (N n u : Nat) (hm : P.follows .mixedOrders = true) (hB : lexTailU .any l.toArray n u = true)
    (hyu : ∀ ou v a, l[u]? = some ou → YieldsIn P l.toArray (fun w' => ∃ x : Aft N w, w' = x.w) ou v a → Yields P l.toArray ou v a) (hQ : ∀ d v c a w, Q (.panic c) (Act.put a d v) w → Q (.panic c) a w)
    (h : wpQuiet P l.toArray (fun w' => ∃ x : Aft N w, w' = x.w) (fun a' => ∀ w', (∃ x : Aft N w, w' = x.w) → wpList P l.toArray Q (l.drop n) a' w') (l.take n) a) : (Code.region id l.toArray true).wp P Q a w := by
  simp only [lexTailU, Bool.and_eq_true, decide_eq_true_eq] at hB
  obtain ⟨⟨⟨⟨hsel, hsz⟩, hun⟩, hs⟩, hlex⟩ := hB
  have hn' : l.length = n + 1 := by simpa using hsz
  have ht : (l.take n).length = n := by rw [List.length_take]; omega
  have hd : (l.drop n).length = l.toArray.size - n := by simp
  have inv0 : HeadInv .any l.toArray n (Array.replicate l.toArray.size false) :=
    ⟨by simp, fun j oj _ e => (by rw [getD_replicate_false] at e; cases e), fun t _ e => getD_in (by simpa using e) (getD_replicate_false _ _)⟩
  have H := waysU.lex (md := .any) (u := u) (g := l.toArray.size - n) hsel hs hsz (fun ou v a ho hy => hyu ou v a (by simpa using ho) hy) (l.take n) 0 _ a (fun j hj => by
    rw [ht] at hj
    simp [hj]) (by omega) inv0 (by rw [ht]; exact hlex) h
  refine wp_region_any hm ?_
  have hW : ∃ x : Aft N w, ({ w with drawn := w.drawn + 1 } : World) = x.w := ⟨⟨_, (Below.refl _ _).drew⟩, rfl⟩
  have := waysU.any (Q' := Q) (g := l.toArray.size - n) (Region.noSelect_spec hsel) hQ (fun ls a' w' hw' hL => by
    have := wpAny_of_seq (md := .any) (Q' := Q) (l.drop n) n ls a' w' (fun j => by simp [List.getElem?_drop]) (by rw [hd]; exact hL.1) (hL.2 w' hw')
    rwa [hd] at this) _ _ _ _ hW H
  rw [ht, show n + (l.toArray.size - n) = l.toArray.size by omega] at this
  exact this
end
section
variable {P : Program} {ops : Array Oper} {C : World → Prop}
/-- What a part of a tuple is does not hang on the world. -/
theorem extract_yields {o : Oper} {x : Operand} {ix : Nat} (ho : o.op = .extract x ix) {w0 : World} (hw0 : C w0) {v : Value} {a : Act} (h : YieldsIn P ops C o v a) : Yields P ops o v a := by
  rcases h with ⟨h1, h2⟩ | h
  · refine .inl ⟨h1, fun w => ?_⟩
    have h3 := h2 w0 hw0
    unfold Oper.quietAt execOp at h3
    unfold execOp
    rw [ho] at h3 ⊢
    simp only at h3 ⊢
    unfold Instr.extract at h3 ⊢
    generalize a.eval x = y at *
    cases y
    case tuple vs =>
      cases hv : vs[ix]? with
      | some z =>
        simp only [hv] at h3 ⊢
        have h4 : z = v := by simpa [Oper.quietUpon] using h3
        simp [h4]
      | none =>
        simp only [hv] at h3
        simp [Oper.quietUpon, stuck] at h3
    all_goals simp [Oper.quietUpon, stuck] at h3
  · exact .inr h
end
end Go.Proofs.YtcjoinhngdfdmaaGreatDoor
end
section
namespace Go.Proofs.YtcjoinhngdfdmaaGreatDoor
open Go.RowKit
set_option linter.unusedVariables false
set_option maxHeartbeats 1000000

set_option maxRecDepth 100000
attribute [local go_sem ↓] append_appS copy_copS clear_clrS make_mkS cell_row frozen_row heap_drew heap_drewN heap_alloc heap_past heap_setCell heap_putRow loadSe storeSe loadIns storeIns loadEv storeEv loadRg storeRg sec_kd sec_li sec_wo sec_va sec_sn insc_op insc_a insc_b insc_c insc_im evc_kd evc_co evc_li evc_wo evc_va coc_id coc_ru coc_reg coc_pr coc_pc coc_qb coc_wt
attribute [local go_sem] rowCell_some rowFrozen_some rowHas_some rowIn_some rowPart_full rowPut_full rowSet_some run_loadS run_storeS run_appS run_copS run_clrS run_mkS loadW_at storeW_at fit_all fit_le one_int one_bool one_pointer one_slice allOne_list putRow_new ne_size1 ne_size2 wideSe wideIns wideEv wideRg sec_size sec_one sec_lit sec_z sec_ne sec_set0 sec_set1 sec_set2 sec_set3 seZ_kd seZ_li seZ_wo seZ_va seZ_sn insc_size insc_one insc_ne insc_lit insc_z evc_size evc_one evc_ne evc_lit evc_z evc_set0 evc_set1 evc_set2 evc_set3 evc_set4 evZ_kd evZ_co evZ_li evZ_wo evZ_va fold_evc coc_setRu coc_size coc_setPc coc_setWt coc_setReg coc_regs vs_size vs_one
attribute [local simp ↓] heap_drew heap_drewN heap_alloc heap_past heap_setCell heap_putRow
attribute [local simp] rowCell_some rowFrozen_some rowHas_some rowIn_some rowPart_full rowPut_full rowSet_some fit_all putRow_new ne_size1 ne_size2 sec_size insc_size evc_size coc_size coc_setRu coc_setPc coc_setWt coc_setReg vs_size fit_le
attribute [local go_sem ↓] heap_drewN
section
variable {W w : World} {c : Cg} {sy n : Nat} {F : List Nat} {S : Mst} {cur : Nat → List Int} {kb pb qb : Nat} {Q : Co} (h : CS W w c sy F S kb pb qb Q) (hI : Inv c n S cur) (hN : NN cur) (hn : n + 1 ≤ 1000000000) (hR : Roomy c S) (hR2 : ∀ li wo, Roomy c (loadM c S Q.id li wo).1) (hT : Tab W) {u : Int} {r : Bool} (hru : Q.ru = true) (hx : Q.pr[Q.pc]? = some (u, r))
include h hI hN hn hR hR2 hT hru hx
theorem xexec_2 (hd : decB u = true) (hk : (insOf u).op = 2) : Calls Tryz.prog 17 #[.pointer (some ⟨kb, 0, none⟩), .pointer (some ⟨sy, 0, none⟩)] w (CSTo W w c sy F kb pb qb S (nextC (setR (readC Q u) (insOf u).a (doV (insOf u).op (regA (readC Q u) (insOf u).b) (regA (readC Q u) (insOf u).c)))) []) := by
  have _ := hI
  have _ := hN
  have _ := hn
  have _ := hR
  have _ := hR2
  have _ := hT
  have hg : goodI (insOf u) = true := by unfold decB at hd; rw [Bool.and_eq_true] at hd; exact hd.1
  obtain ⟨_, ga, gb, gc, gm⟩ := goodI_parts hg
  have hpl := (List.getElem?_eq_some_iff.1 hx).1
  have hpn := h.co.ok.np
  have hp : (readC Q u).pc < 2147483648 := by show Q.pc < _; omega
  have DH := dhere h.co hx
  rw [hd, show decI u = insOf u by unfold decI; rw [hd]; rfl] at DH
  have HD := Lib.hid DH
  have RU := cruns h.co.own
  rw [hru] at RU
  have HRU := Lib.hid RU
  have HP := Lib.hid hp
  have H1 := Lib.hid (fun (w1 : World) (hc : Chg [pb] w w1) (hC : Cor w1 kb pb qb (readC Q u)) => h.core (hc.mono (by simp)) hC)
  have EN := Lib.hid (fun (w' : World) (Q' : Co) (h' : CS W w' c sy F S kb pb qb Q') (hp : Q'.pc < 2147483648) => (dnext_nil h'.co h'.old hp).mono fun e w' hd => h'.ofCo hd)
  obtain ⟨na, hna⟩ : ∃ n : Nat, (insOf u).a = (n : Int) := ⟨(insOf u).a.toNat, by omega⟩
  have la : na < 8 := by omega
  have la' : (na : Int) < 8 := by omega
  obtain ⟨nb, hnb⟩ : ∃ n : Nat, (insOf u).b = (n : Int) := ⟨(insOf u).b.toNat, by omega⟩
  have lb : nb < 8 := by omega
  have lb' : (nb : Int) < 8 := by omega
  obtain ⟨nc, hnc⟩ : ∃ n : Nat, (insOf u).c = (n : Int) := ⟨(insOf u).c.toNat, by omega⟩
  have lc : nc < 8 := by omega
  have lc' : (nc : Int) < 8 := by omega
  have eb : regA (readC Q u) (insOf u).b = regN (readC Q u).rg nb := by unfold regA; rw [hnb, Int.toNat_natCast]
  have ec : regA (readC Q u) (insOf u).c = regN (readC Q u).rg nc := by unfold regA; rw [hnc, Int.toNat_natCast]
  have p1 := h.co.ok.pos.read u |>.reg (insOf u).b
  have p2 := h.co.ok.pos.read u |>.reg (insOf u).c
  rw [eb] at p1
  rw [ec] at p2
  have HV := Lib.hid (doV_pos 2 (b := regN (readC Q u).rg nb) (c := regN (readC Q u).rg nc) p1)
  have GD := Lib.hid (fun (w' : World) => gdo_any 2 (regN (readC Q u).rg nb) (regN (readC Q u).rg nc) p2 w' |>.mono fun _ _ h => (⟨h.1, h.2 ▸ Chg.mapW _ _⟩ : _ ∧ Chg [] w' _))
  rw [eb, ec, hk, hna]
  clear eb ec p1 p2
  have h8 : (readC Q u).rg.length = 8 := h.co.ok.h8
  clear h hI hN hn hR hR2 hT hru hx hd DH RU ga gb gc gm hg hpl hpn hp
  generalize insOf u = i at *
  generalize readC Q u = Q1 at *
  go_enter Tryz.func17, Tryz.ntmps17
  try dsimp only [List.append]
  go_wp2_with (first | (go_at_call 15; refine HRU.out.mono ?_; rintro e w' ⟨rfl, rfl⟩) | (go_at_call 41; refine HD.out.mono ?_; rintro e w1 ⟨rfl, hC1, hc1⟩; have hb1 := hC1.own; have H1 := Lib.hid (H1.out w1 hc1 hC1); have C1 := Lib.hid hc1; clear hC1 hc1))
  have hx2 : (w1.alloc (.cells (insc i) 33)).heap[w1.heap.size]? = some (.cells (insc i) 33 (0, 0)) := by simp
  have C2 := Lib.hid (show Chg [] w1 (w1.alloc (.cells (insc i) 33)) from (Chg.refl [] w1).alloc _)
  have hb2 := C2.out.keep hb1 (by simp)
  have H2 := Lib.hid (H1.out.keep0 C2.out)
  have HPK := Lib.hid (show w1.heap.size ≠ kb ∧ w1.heap.size ∉ F from ⟨by have := H1.out.co.oldk.lt; omega, fun hm => by have := H1.out.old _ hm; omega⟩)
  have G2 := Lib.hid (show Chg (kb :: pb :: qb :: F) w (w1.alloc (.cells (insc i) 33)) from chg_core ((C1.out.mono (by simp)).trans (C2.out.mono (by simp))))
  clear hb1 H1 C1 C2 HD HRU
  generalize w1.alloc (.cells (insc i) 33) = w2 at *
  generalize w1.heap.size = p at *
  have o2 := old hb2
  have ox2 := old hx2
  have n1 : ¬ p = kb := HPK.out.1
  have n2 : ¬ kb = p := fun e => HPK.out.1 e.symm
  have R1 : ∀ y : Aft w2.heap.size w2, y.w.heap[p]? = some (.cells (insc i) 33 (0, 0)) := fun y => (y.block ox2.lt).trans hx2
  have R2 : ∀ y : Aft w2.heap.size w2, y.w.heap[kb]? = some (.cells (coc Q1.id Q1.ru Q1.rg pb Q1.pr.length Q1.pc qb Q1.wt) 98 (0, 0)) := fun y => (y.block o2.lt).trans hb2
  refine wp_region_aft_loose w2.heap.size 26 22 (by kernel_rfl) (by kernel_rfl) (fun ou v a ho hy => by
    obtain rfl := Option.some.inj ho
    exact extract_yields rfl ⟨⟨w2, Below.refl _ _⟩, rfl⟩ hy) (fun d v c a w h => by cases d <;> exact h) ?_
  simp only [List.take_succ_cons, List.take_zero, List.drop_succ_cons, List.drop_zero]
  repeat (go_big_quiet_step (first | (go_at_call 43; exact calls_aftC (Nat.le_refl _) (GD.out _))))
  refine wpQuiet_nil ?_
  rintro _ ⟨y, rfl⟩
  have CY := Lib.hid (Below.chg y.below (Nat.le_refl _))
  have H3 := Lib.hid (H2.out.keep0 CY.out)
  have r1 := R1 y
  have r2 := R2 y
  generalize y.w = w3 at *
  go_wp2_with fail
  refine (EN.out _ _ (H3.out.setReg la HV.out) HP.out).mono ?_
  rintro e w4 ⟨v, F', rfl, hd⟩
  go_wp2_with fail
  go_ret
  exact CSTo.from ((G2.out.trans (CY.out.mono (by simp))).trans (chg_core ((Chg.refl [kb, pb, qb] w3).setCell kb _ _ (.inl (by simp))))) (fun k hk => .inl hk) ⟨v, F', rfl, hd⟩
theorem xexec_3 (hd : decB u = true) (hk : (insOf u).op = 3) : Calls Tryz.prog 17 #[.pointer (some ⟨kb, 0, none⟩), .pointer (some ⟨sy, 0, none⟩)] w (CSTo W w c sy F kb pb qb S (nextC (setR (readC Q u) (insOf u).a (doV (insOf u).op (regA (readC Q u) (insOf u).b) (regA (readC Q u) (insOf u).c)))) []) := by
  have _ := hI
  have _ := hN
  have _ := hn
  have _ := hR
  have _ := hR2
  have _ := hT
  have hg : goodI (insOf u) = true := by unfold decB at hd; rw [Bool.and_eq_true] at hd; exact hd.1
  obtain ⟨_, ga, gb, gc, gm⟩ := goodI_parts hg
  have hpl := (List.getElem?_eq_some_iff.1 hx).1
  have hpn := h.co.ok.np
  have hp : (readC Q u).pc < 2147483648 := by show Q.pc < _; omega
  have DH := dhere h.co hx
  rw [hd, show decI u = insOf u by unfold decI; rw [hd]; rfl] at DH
  have HD := Lib.hid DH
  have RU := cruns h.co.own
  rw [hru] at RU
  have HRU := Lib.hid RU
  have HP := Lib.hid hp
  have H1 := Lib.hid (fun (w1 : World) (hc : Chg [pb] w w1) (hC : Cor w1 kb pb qb (readC Q u)) => h.core (hc.mono (by simp)) hC)
  have EN := Lib.hid (fun (w' : World) (Q' : Co) (h' : CS W w' c sy F S kb pb qb Q') (hp : Q'.pc < 2147483648) => (dnext_nil h'.co h'.old hp).mono fun e w' hd => h'.ofCo hd)
  obtain ⟨na, hna⟩ : ∃ n : Nat, (insOf u).a = (n : Int) := ⟨(insOf u).a.toNat, by omega⟩
  have la : na < 8 := by omega
  have la' : (na : Int) < 8 := by omega
  obtain ⟨nb, hnb⟩ : ∃ n : Nat, (insOf u).b = (n : Int) := ⟨(insOf u).b.toNat, by omega⟩
  have lb : nb < 8 := by omega
  have lb' : (nb : Int) < 8 := by omega
  obtain ⟨nc, hnc⟩ : ∃ n : Nat, (insOf u).c = (n : Int) := ⟨(insOf u).c.toNat, by omega⟩
  have lc : nc < 8 := by omega
  have lc' : (nc : Int) < 8 := by omega
  have eb : regA (readC Q u) (insOf u).b = regN (readC Q u).rg nb := by unfold regA; rw [hnb, Int.toNat_natCast]
  have ec : regA (readC Q u) (insOf u).c = regN (readC Q u).rg nc := by unfold regA; rw [hnc, Int.toNat_natCast]
  have p1 := h.co.ok.pos.read u |>.reg (insOf u).b
  have p2 := h.co.ok.pos.read u |>.reg (insOf u).c
  rw [eb] at p1
  rw [ec] at p2
  have HV := Lib.hid (doV_pos 3 (b := regN (readC Q u).rg nb) (c := regN (readC Q u).rg nc) p1)
  have GD := Lib.hid (fun (w' : World) => gdo_any 3 (regN (readC Q u).rg nb) (regN (readC Q u).rg nc) p2 w' |>.mono fun _ _ h => (⟨h.1, h.2 ▸ Chg.mapW _ _⟩ : _ ∧ Chg [] w' _))
  rw [eb, ec, hk, hna]
  clear eb ec p1 p2
  have h8 : (readC Q u).rg.length = 8 := h.co.ok.h8
  clear h hI hN hn hR hR2 hT hru hx hd DH RU ga gb gc gm hg hpl hpn hp
  generalize insOf u = i at *
  generalize readC Q u = Q1 at *
  go_enter Tryz.func17, Tryz.ntmps17
  try dsimp only [List.append]
  go_wp2_with (first | (go_at_call 15; refine HRU.out.mono ?_; rintro e w' ⟨rfl, rfl⟩) | (go_at_call 41; refine HD.out.mono ?_; rintro e w1 ⟨rfl, hC1, hc1⟩; have hb1 := hC1.own; have H1 := Lib.hid (H1.out w1 hc1 hC1); have C1 := Lib.hid hc1; clear hC1 hc1))
  have hx2 : (w1.alloc (.cells (insc i) 33)).heap[w1.heap.size]? = some (.cells (insc i) 33 (0, 0)) := by simp
  have C2 := Lib.hid (show Chg [] w1 (w1.alloc (.cells (insc i) 33)) from (Chg.refl [] w1).alloc _)
  have hb2 := C2.out.keep hb1 (by simp)
  have H2 := Lib.hid (H1.out.keep0 C2.out)
  have HPK := Lib.hid (show w1.heap.size ≠ kb ∧ w1.heap.size ∉ F from ⟨by have := H1.out.co.oldk.lt; omega, fun hm => by have := H1.out.old _ hm; omega⟩)
  have G2 := Lib.hid (show Chg (kb :: pb :: qb :: F) w (w1.alloc (.cells (insc i) 33)) from chg_core ((C1.out.mono (by simp)).trans (C2.out.mono (by simp))))
  clear hb1 H1 C1 C2 HD HRU
  generalize w1.alloc (.cells (insc i) 33) = w2 at *
  generalize w1.heap.size = p at *
  have o2 := old hb2
  have ox2 := old hx2
  have n1 : ¬ p = kb := HPK.out.1
  have n2 : ¬ kb = p := fun e => HPK.out.1 e.symm
  have R1 : ∀ y : Aft w2.heap.size w2, y.w.heap[p]? = some (.cells (insc i) 33 (0, 0)) := fun y => (y.block ox2.lt).trans hx2
  have R2 : ∀ y : Aft w2.heap.size w2, y.w.heap[kb]? = some (.cells (coc Q1.id Q1.ru Q1.rg pb Q1.pr.length Q1.pc qb Q1.wt) 98 (0, 0)) := fun y => (y.block o2.lt).trans hb2
  refine wp_region_aft_loose w2.heap.size 26 22 (by kernel_rfl) (by kernel_rfl) (fun ou v a ho hy => by
    obtain rfl := Option.some.inj ho
    exact extract_yields rfl ⟨⟨w2, Below.refl _ _⟩, rfl⟩ hy) (fun d v c a w h => by cases d <;> exact h) ?_
  simp only [List.take_succ_cons, List.take_zero, List.drop_succ_cons, List.drop_zero]
  repeat (go_big_quiet_step (first | (go_at_call 43; exact calls_aftC (Nat.le_refl _) (GD.out _))))
  refine wpQuiet_nil ?_
  rintro _ ⟨y, rfl⟩
  have CY := Lib.hid (Below.chg y.below (Nat.le_refl _))
  have H3 := Lib.hid (H2.out.keep0 CY.out)
  have r1 := R1 y
  have r2 := R2 y
  generalize y.w = w3 at *
  go_wp2_with fail
  refine (EN.out _ _ (H3.out.setReg la HV.out) HP.out).mono ?_
  rintro e w4 ⟨v, F', rfl, hd⟩
  go_wp2_with fail
  go_ret
  exact CSTo.from ((G2.out.trans (CY.out.mono (by simp))).trans (chg_core ((Chg.refl [kb, pb, qb] w3).setCell kb _ _ (.inl (by simp))))) (fun k hk => .inl hk) ⟨v, F', rfl, hd⟩
theorem xexec_4 (hd : decB u = true) (hk : (insOf u).op = 4) : Calls Tryz.prog 17 #[.pointer (some ⟨kb, 0, none⟩), .pointer (some ⟨sy, 0, none⟩)] w (CSTo W w c sy F kb pb qb S (nextC (setR (readC Q u) (insOf u).a (doV (insOf u).op (regA (readC Q u) (insOf u).b) (regA (readC Q u) (insOf u).c)))) []) := by
  have _ := hI
  have _ := hN
  have _ := hn
  have _ := hR
  have _ := hR2
  have _ := hT
  have hg : goodI (insOf u) = true := by unfold decB at hd; rw [Bool.and_eq_true] at hd; exact hd.1
  obtain ⟨_, ga, gb, gc, gm⟩ := goodI_parts hg
  have hpl := (List.getElem?_eq_some_iff.1 hx).1
  have hpn := h.co.ok.np
  have hp : (readC Q u).pc < 2147483648 := by show Q.pc < _; omega
  have DH := dhere h.co hx
  rw [hd, show decI u = insOf u by unfold decI; rw [hd]; rfl] at DH
  have HD := Lib.hid DH
  have RU := cruns h.co.own
  rw [hru] at RU
  have HRU := Lib.hid RU
  have HP := Lib.hid hp
  have H1 := Lib.hid (fun (w1 : World) (hc : Chg [pb] w w1) (hC : Cor w1 kb pb qb (readC Q u)) => h.core (hc.mono (by simp)) hC)
  have EN := Lib.hid (fun (w' : World) (Q' : Co) (h' : CS W w' c sy F S kb pb qb Q') (hp : Q'.pc < 2147483648) => (dnext_nil h'.co h'.old hp).mono fun e w' hd => h'.ofCo hd)
  obtain ⟨na, hna⟩ : ∃ n : Nat, (insOf u).a = (n : Int) := ⟨(insOf u).a.toNat, by omega⟩
  have la : na < 8 := by omega
  have la' : (na : Int) < 8 := by omega
  obtain ⟨nb, hnb⟩ : ∃ n : Nat, (insOf u).b = (n : Int) := ⟨(insOf u).b.toNat, by omega⟩
  have lb : nb < 8 := by omega
  have lb' : (nb : Int) < 8 := by omega
  obtain ⟨nc, hnc⟩ : ∃ n : Nat, (insOf u).c = (n : Int) := ⟨(insOf u).c.toNat, by omega⟩
  have lc : nc < 8 := by omega
  have lc' : (nc : Int) < 8 := by omega
  have eb : regA (readC Q u) (insOf u).b = regN (readC Q u).rg nb := by unfold regA; rw [hnb, Int.toNat_natCast]
  have ec : regA (readC Q u) (insOf u).c = regN (readC Q u).rg nc := by unfold regA; rw [hnc, Int.toNat_natCast]
  have p1 := h.co.ok.pos.read u |>.reg (insOf u).b
  have p2 := h.co.ok.pos.read u |>.reg (insOf u).c
  rw [eb] at p1
  rw [ec] at p2
  have HV := Lib.hid (doV_pos 4 (b := regN (readC Q u).rg nb) (c := regN (readC Q u).rg nc) p1)
  have GD := Lib.hid (fun (w' : World) => gdo_any 4 (regN (readC Q u).rg nb) (regN (readC Q u).rg nc) p2 w' |>.mono fun _ _ h => (⟨h.1, h.2 ▸ Chg.mapW _ _⟩ : _ ∧ Chg [] w' _))
  rw [eb, ec, hk, hna]
  clear eb ec p1 p2
  have h8 : (readC Q u).rg.length = 8 := h.co.ok.h8
  clear h hI hN hn hR hR2 hT hru hx hd DH RU ga gb gc gm hg hpl hpn hp
  generalize insOf u = i at *
  generalize readC Q u = Q1 at *
  go_enter Tryz.func17, Tryz.ntmps17
  try dsimp only [List.append]
  go_wp2_with (first | (go_at_call 15; refine HRU.out.mono ?_; rintro e w' ⟨rfl, rfl⟩) | (go_at_call 41; refine HD.out.mono ?_; rintro e w1 ⟨rfl, hC1, hc1⟩; have hb1 := hC1.own; have H1 := Lib.hid (H1.out w1 hc1 hC1); have C1 := Lib.hid hc1; clear hC1 hc1))
  have hx2 : (w1.alloc (.cells (insc i) 33)).heap[w1.heap.size]? = some (.cells (insc i) 33 (0, 0)) := by simp
  have C2 := Lib.hid (show Chg [] w1 (w1.alloc (.cells (insc i) 33)) from (Chg.refl [] w1).alloc _)
  have hb2 := C2.out.keep hb1 (by simp)
  have H2 := Lib.hid (H1.out.keep0 C2.out)
  have HPK := Lib.hid (show w1.heap.size ≠ kb ∧ w1.heap.size ∉ F from ⟨by have := H1.out.co.oldk.lt; omega, fun hm => by have := H1.out.old _ hm; omega⟩)
  have G2 := Lib.hid (show Chg (kb :: pb :: qb :: F) w (w1.alloc (.cells (insc i) 33)) from chg_core ((C1.out.mono (by simp)).trans (C2.out.mono (by simp))))
  clear hb1 H1 C1 C2 HD HRU
  generalize w1.alloc (.cells (insc i) 33) = w2 at *
  generalize w1.heap.size = p at *
  have o2 := old hb2
  have ox2 := old hx2
  have n1 : ¬ p = kb := HPK.out.1
  have n2 : ¬ kb = p := fun e => HPK.out.1 e.symm
  have R1 : ∀ y : Aft w2.heap.size w2, y.w.heap[p]? = some (.cells (insc i) 33 (0, 0)) := fun y => (y.block ox2.lt).trans hx2
  have R2 : ∀ y : Aft w2.heap.size w2, y.w.heap[kb]? = some (.cells (coc Q1.id Q1.ru Q1.rg pb Q1.pr.length Q1.pc qb Q1.wt) 98 (0, 0)) := fun y => (y.block o2.lt).trans hb2
  refine wp_region_aft_loose w2.heap.size 26 22 (by kernel_rfl) (by kernel_rfl) (fun ou v a ho hy => by
    obtain rfl := Option.some.inj ho
    exact extract_yields rfl ⟨⟨w2, Below.refl _ _⟩, rfl⟩ hy) (fun d v c a w h => by cases d <;> exact h) ?_
  simp only [List.take_succ_cons, List.take_zero, List.drop_succ_cons, List.drop_zero]
  repeat (go_big_quiet_step (first | (go_at_call 43; exact calls_aftC (Nat.le_refl _) (GD.out _))))
  refine wpQuiet_nil ?_
  rintro _ ⟨y, rfl⟩
  have CY := Lib.hid (Below.chg y.below (Nat.le_refl _))
  have H3 := Lib.hid (H2.out.keep0 CY.out)
  have r1 := R1 y
  have r2 := R2 y
  generalize y.w = w3 at *
  go_wp2_with fail
  refine (EN.out _ _ (H3.out.setReg la HV.out) HP.out).mono ?_
  rintro e w4 ⟨v, F', rfl, hd⟩
  go_wp2_with fail
  go_ret
  exact CSTo.from ((G2.out.trans (CY.out.mono (by simp))).trans (chg_core ((Chg.refl [kb, pb, qb] w3).setCell kb _ _ (.inl (by simp))))) (fun k hk => .inl hk) ⟨v, F', rfl, hd⟩
theorem xexec_5 (hd : decB u = true) (hk : (insOf u).op = 5) : Calls Tryz.prog 17 #[.pointer (some ⟨kb, 0, none⟩), .pointer (some ⟨sy, 0, none⟩)] w (CSTo W w c sy F kb pb qb S (nextC (setR (readC Q u) (insOf u).a (doV (insOf u).op (regA (readC Q u) (insOf u).b) (regA (readC Q u) (insOf u).c)))) []) := by
  have _ := hI
  have _ := hN
  have _ := hn
  have _ := hR
  have _ := hR2
  have _ := hT
  have hg : goodI (insOf u) = true := by unfold decB at hd; rw [Bool.and_eq_true] at hd; exact hd.1
  obtain ⟨_, ga, gb, gc, gm⟩ := goodI_parts hg
  have hpl := (List.getElem?_eq_some_iff.1 hx).1
  have hpn := h.co.ok.np
  have hp : (readC Q u).pc < 2147483648 := by show Q.pc < _; omega
  have DH := dhere h.co hx
  rw [hd, show decI u = insOf u by unfold decI; rw [hd]; rfl] at DH
  have HD := Lib.hid DH
  have RU := cruns h.co.own
  rw [hru] at RU
  have HRU := Lib.hid RU
  have HP := Lib.hid hp
  have H1 := Lib.hid (fun (w1 : World) (hc : Chg [pb] w w1) (hC : Cor w1 kb pb qb (readC Q u)) => h.core (hc.mono (by simp)) hC)
  have EN := Lib.hid (fun (w' : World) (Q' : Co) (h' : CS W w' c sy F S kb pb qb Q') (hp : Q'.pc < 2147483648) => (dnext_nil h'.co h'.old hp).mono fun e w' hd => h'.ofCo hd)
  obtain ⟨na, hna⟩ : ∃ n : Nat, (insOf u).a = (n : Int) := ⟨(insOf u).a.toNat, by omega⟩
  have la : na < 8 := by omega
  have la' : (na : Int) < 8 := by omega
  obtain ⟨nb, hnb⟩ : ∃ n : Nat, (insOf u).b = (n : Int) := ⟨(insOf u).b.toNat, by omega⟩
  have lb : nb < 8 := by omega
  have lb' : (nb : Int) < 8 := by omega
  obtain ⟨nc, hnc⟩ : ∃ n : Nat, (insOf u).c = (n : Int) := ⟨(insOf u).c.toNat, by omega⟩
  have lc : nc < 8 := by omega
  have lc' : (nc : Int) < 8 := by omega
  have eb : regA (readC Q u) (insOf u).b = regN (readC Q u).rg nb := by unfold regA; rw [hnb, Int.toNat_natCast]
  have ec : regA (readC Q u) (insOf u).c = regN (readC Q u).rg nc := by unfold regA; rw [hnc, Int.toNat_natCast]
  have p1 := h.co.ok.pos.read u |>.reg (insOf u).b
  have p2 := h.co.ok.pos.read u |>.reg (insOf u).c
  rw [eb] at p1
  rw [ec] at p2
  have HV := Lib.hid (doV_pos 5 (b := regN (readC Q u).rg nb) (c := regN (readC Q u).rg nc) p1)
  have GD := Lib.hid (fun (w' : World) => gdo_any 5 (regN (readC Q u).rg nb) (regN (readC Q u).rg nc) p2 w' |>.mono fun _ _ h => (⟨h.1, h.2 ▸ Chg.mapW _ _⟩ : _ ∧ Chg [] w' _))
  rw [eb, ec, hk, hna]
  clear eb ec p1 p2
  have h8 : (readC Q u).rg.length = 8 := h.co.ok.h8
  clear h hI hN hn hR hR2 hT hru hx hd DH RU ga gb gc gm hg hpl hpn hp
  generalize insOf u = i at *
  generalize readC Q u = Q1 at *
  go_enter Tryz.func17, Tryz.ntmps17
  try dsimp only [List.append]
  go_wp2_with (first | (go_at_call 15; refine HRU.out.mono ?_; rintro e w' ⟨rfl, rfl⟩) | (go_at_call 41; refine HD.out.mono ?_; rintro e w1 ⟨rfl, hC1, hc1⟩; have hb1 := hC1.own; have H1 := Lib.hid (H1.out w1 hc1 hC1); have C1 := Lib.hid hc1; clear hC1 hc1))
  have hx2 : (w1.alloc (.cells (insc i) 33)).heap[w1.heap.size]? = some (.cells (insc i) 33 (0, 0)) := by simp
  have C2 := Lib.hid (show Chg [] w1 (w1.alloc (.cells (insc i) 33)) from (Chg.refl [] w1).alloc _)
  have hb2 := C2.out.keep hb1 (by simp)
  have H2 := Lib.hid (H1.out.keep0 C2.out)
  have HPK := Lib.hid (show w1.heap.size ≠ kb ∧ w1.heap.size ∉ F from ⟨by have := H1.out.co.oldk.lt; omega, fun hm => by have := H1.out.old _ hm; omega⟩)
  have G2 := Lib.hid (show Chg (kb :: pb :: qb :: F) w (w1.alloc (.cells (insc i) 33)) from chg_core ((C1.out.mono (by simp)).trans (C2.out.mono (by simp))))
  clear hb1 H1 C1 C2 HD HRU
  generalize w1.alloc (.cells (insc i) 33) = w2 at *
  generalize w1.heap.size = p at *
  have o2 := old hb2
  have ox2 := old hx2
  have n1 : ¬ p = kb := HPK.out.1
  have n2 : ¬ kb = p := fun e => HPK.out.1 e.symm
  have R1 : ∀ y : Aft w2.heap.size w2, y.w.heap[p]? = some (.cells (insc i) 33 (0, 0)) := fun y => (y.block ox2.lt).trans hx2
  have R2 : ∀ y : Aft w2.heap.size w2, y.w.heap[kb]? = some (.cells (coc Q1.id Q1.ru Q1.rg pb Q1.pr.length Q1.pc qb Q1.wt) 98 (0, 0)) := fun y => (y.block o2.lt).trans hb2
  refine wp_region_aft_loose w2.heap.size 26 22 (by kernel_rfl) (by kernel_rfl) (fun ou v a ho hy => by
    obtain rfl := Option.some.inj ho
    exact extract_yields rfl ⟨⟨w2, Below.refl _ _⟩, rfl⟩ hy) (fun d v c a w h => by cases d <;> exact h) ?_
  simp only [List.take_succ_cons, List.take_zero, List.drop_succ_cons, List.drop_zero]
  repeat (go_big_quiet_step (first | (go_at_call 43; exact calls_aftC (Nat.le_refl _) (GD.out _))))
  refine wpQuiet_nil ?_
  rintro _ ⟨y, rfl⟩
  have CY := Lib.hid (Below.chg y.below (Nat.le_refl _))
  have H3 := Lib.hid (H2.out.keep0 CY.out)
  have r1 := R1 y
  have r2 := R2 y
  generalize y.w = w3 at *
  go_wp2_with fail
  refine (EN.out _ _ (H3.out.setReg la HV.out) HP.out).mono ?_
  rintro e w4 ⟨v, F', rfl, hd⟩
  go_wp2_with fail
  go_ret
  exact CSTo.from ((G2.out.trans (CY.out.mono (by simp))).trans (chg_core ((Chg.refl [kb, pb, qb] w3).setCell kb _ _ (.inl (by simp))))) (fun k hk => .inl hk) ⟨v, F', rfl, hd⟩
theorem xexec_6 (hd : decB u = true) (hk : (insOf u).op = 6) : Calls Tryz.prog 17 #[.pointer (some ⟨kb, 0, none⟩), .pointer (some ⟨sy, 0, none⟩)] w (CSTo W w c sy F kb pb qb S (nextC (setR (readC Q u) (insOf u).a (doV (insOf u).op (regA (readC Q u) (insOf u).b) (regA (readC Q u) (insOf u).c)))) []) := by
  have _ := hI
  have _ := hN
  have _ := hn
  have _ := hR
  have _ := hR2
  have _ := hT
  have hg : goodI (insOf u) = true := by unfold decB at hd; rw [Bool.and_eq_true] at hd; exact hd.1
  obtain ⟨_, ga, gb, gc, gm⟩ := goodI_parts hg
  have hpl := (List.getElem?_eq_some_iff.1 hx).1
  have hpn := h.co.ok.np
  have hp : (readC Q u).pc < 2147483648 := by show Q.pc < _; omega
  have DH := dhere h.co hx
  rw [hd, show decI u = insOf u by unfold decI; rw [hd]; rfl] at DH
  have HD := Lib.hid DH
  have RU := cruns h.co.own
  rw [hru] at RU
  have HRU := Lib.hid RU
  have HP := Lib.hid hp
  have H1 := Lib.hid (fun (w1 : World) (hc : Chg [pb] w w1) (hC : Cor w1 kb pb qb (readC Q u)) => h.core (hc.mono (by simp)) hC)
  have EN := Lib.hid (fun (w' : World) (Q' : Co) (h' : CS W w' c sy F S kb pb qb Q') (hp : Q'.pc < 2147483648) => (dnext_nil h'.co h'.old hp).mono fun e w' hd => h'.ofCo hd)
  obtain ⟨na, hna⟩ : ∃ n : Nat, (insOf u).a = (n : Int) := ⟨(insOf u).a.toNat, by omega⟩
  have la : na < 8 := by omega
  have la' : (na : Int) < 8 := by omega
  obtain ⟨nb, hnb⟩ : ∃ n : Nat, (insOf u).b = (n : Int) := ⟨(insOf u).b.toNat, by omega⟩
  have lb : nb < 8 := by omega
  have lb' : (nb : Int) < 8 := by omega
  obtain ⟨nc, hnc⟩ : ∃ n : Nat, (insOf u).c = (n : Int) := ⟨(insOf u).c.toNat, by omega⟩
  have lc : nc < 8 := by omega
  have lc' : (nc : Int) < 8 := by omega
  have eb : regA (readC Q u) (insOf u).b = regN (readC Q u).rg nb := by unfold regA; rw [hnb, Int.toNat_natCast]
  have ec : regA (readC Q u) (insOf u).c = regN (readC Q u).rg nc := by unfold regA; rw [hnc, Int.toNat_natCast]
  have p1 := h.co.ok.pos.read u |>.reg (insOf u).b
  have p2 := h.co.ok.pos.read u |>.reg (insOf u).c
  rw [eb] at p1
  rw [ec] at p2
  have HV := Lib.hid (doV_pos 6 (b := regN (readC Q u).rg nb) (c := regN (readC Q u).rg nc) p1)
  have GD := Lib.hid (fun (w' : World) => gdo_any 6 (regN (readC Q u).rg nb) (regN (readC Q u).rg nc) p2 w' |>.mono fun _ _ h => (⟨h.1, h.2 ▸ Chg.mapW _ _⟩ : _ ∧ Chg [] w' _))
  rw [eb, ec, hk, hna]
  clear eb ec p1 p2
  have h8 : (readC Q u).rg.length = 8 := h.co.ok.h8
  clear h hI hN hn hR hR2 hT hru hx hd DH RU ga gb gc gm hg hpl hpn hp
  generalize insOf u = i at *
  generalize readC Q u = Q1 at *
  go_enter Tryz.func17, Tryz.ntmps17
  try dsimp only [List.append]
  go_wp2_with (first | (go_at_call 15; refine HRU.out.mono ?_; rintro e w' ⟨rfl, rfl⟩) | (go_at_call 41; refine HD.out.mono ?_; rintro e w1 ⟨rfl, hC1, hc1⟩; have hb1 := hC1.own; have H1 := Lib.hid (H1.out w1 hc1 hC1); have C1 := Lib.hid hc1; clear hC1 hc1))
  have hx2 : (w1.alloc (.cells (insc i) 33)).heap[w1.heap.size]? = some (.cells (insc i) 33 (0, 0)) := by simp
  have C2 := Lib.hid (show Chg [] w1 (w1.alloc (.cells (insc i) 33)) from (Chg.refl [] w1).alloc _)
  have hb2 := C2.out.keep hb1 (by simp)
  have H2 := Lib.hid (H1.out.keep0 C2.out)
  have HPK := Lib.hid (show w1.heap.size ≠ kb ∧ w1.heap.size ∉ F from ⟨by have := H1.out.co.oldk.lt; omega, fun hm => by have := H1.out.old _ hm; omega⟩)
  have G2 := Lib.hid (show Chg (kb :: pb :: qb :: F) w (w1.alloc (.cells (insc i) 33)) from chg_core ((C1.out.mono (by simp)).trans (C2.out.mono (by simp))))
  clear hb1 H1 C1 C2 HD HRU
  generalize w1.alloc (.cells (insc i) 33) = w2 at *
  generalize w1.heap.size = p at *
  have o2 := old hb2
  have ox2 := old hx2
  have n1 : ¬ p = kb := HPK.out.1
  have n2 : ¬ kb = p := fun e => HPK.out.1 e.symm
  have R1 : ∀ y : Aft w2.heap.size w2, y.w.heap[p]? = some (.cells (insc i) 33 (0, 0)) := fun y => (y.block ox2.lt).trans hx2
  have R2 : ∀ y : Aft w2.heap.size w2, y.w.heap[kb]? = some (.cells (coc Q1.id Q1.ru Q1.rg pb Q1.pr.length Q1.pc qb Q1.wt) 98 (0, 0)) := fun y => (y.block o2.lt).trans hb2
  refine wp_region_aft_loose w2.heap.size 26 22 (by kernel_rfl) (by kernel_rfl) (fun ou v a ho hy => by
    obtain rfl := Option.some.inj ho
    exact extract_yields rfl ⟨⟨w2, Below.refl _ _⟩, rfl⟩ hy) (fun d v c a w h => by cases d <;> exact h) ?_
  simp only [List.take_succ_cons, List.take_zero, List.drop_succ_cons, List.drop_zero]
  repeat (go_big_quiet_step (first | (go_at_call 43; exact calls_aftC (Nat.le_refl _) (GD.out _))))
  refine wpQuiet_nil ?_
  rintro _ ⟨y, rfl⟩
  have CY := Lib.hid (Below.chg y.below (Nat.le_refl _))
  have H3 := Lib.hid (H2.out.keep0 CY.out)
  have r1 := R1 y
  have r2 := R2 y
  generalize y.w = w3 at *
  go_wp2_with fail
  refine (EN.out _ _ (H3.out.setReg la HV.out) HP.out).mono ?_
  rintro e w4 ⟨v, F', rfl, hd⟩
  go_wp2_with fail
  go_ret
  exact CSTo.from ((G2.out.trans (CY.out.mono (by simp))).trans (chg_core ((Chg.refl [kb, pb, qb] w3).setCell kb _ _ (.inl (by simp))))) (fun k hk => .inl hk) ⟨v, F', rfl, hd⟩
theorem xexec_7 (hd : decB u = true) (hk : (insOf u).op = 7) : Calls Tryz.prog 17 #[.pointer (some ⟨kb, 0, none⟩), .pointer (some ⟨sy, 0, none⟩)] w (CSTo W w c sy F kb pb qb S (nextC (setR (readC Q u) (insOf u).a (doV (insOf u).op (regA (readC Q u) (insOf u).b) (regA (readC Q u) (insOf u).c)))) []) := by
  have _ := hI
  have _ := hN
  have _ := hn
  have _ := hR
  have _ := hR2
  have _ := hT
  have hg : goodI (insOf u) = true := by unfold decB at hd; rw [Bool.and_eq_true] at hd; exact hd.1
  obtain ⟨_, ga, gb, gc, gm⟩ := goodI_parts hg
  have hpl := (List.getElem?_eq_some_iff.1 hx).1
  have hpn := h.co.ok.np
  have hp : (readC Q u).pc < 2147483648 := by show Q.pc < _; omega
  have DH := dhere h.co hx
  rw [hd, show decI u = insOf u by unfold decI; rw [hd]; rfl] at DH
  have HD := Lib.hid DH
  have RU := cruns h.co.own
  rw [hru] at RU
  have HRU := Lib.hid RU
  have HP := Lib.hid hp
  have H1 := Lib.hid (fun (w1 : World) (hc : Chg [pb] w w1) (hC : Cor w1 kb pb qb (readC Q u)) => h.core (hc.mono (by simp)) hC)
  have EN := Lib.hid (fun (w' : World) (Q' : Co) (h' : CS W w' c sy F S kb pb qb Q') (hp : Q'.pc < 2147483648) => (dnext_nil h'.co h'.old hp).mono fun e w' hd => h'.ofCo hd)
  obtain ⟨na, hna⟩ : ∃ n : Nat, (insOf u).a = (n : Int) := ⟨(insOf u).a.toNat, by omega⟩
  have la : na < 8 := by omega
  have la' : (na : Int) < 8 := by omega
  obtain ⟨nb, hnb⟩ : ∃ n : Nat, (insOf u).b = (n : Int) := ⟨(insOf u).b.toNat, by omega⟩
  have lb : nb < 8 := by omega
  have lb' : (nb : Int) < 8 := by omega
  obtain ⟨nc, hnc⟩ : ∃ n : Nat, (insOf u).c = (n : Int) := ⟨(insOf u).c.toNat, by omega⟩
  have lc : nc < 8 := by omega
  have lc' : (nc : Int) < 8 := by omega
  have eb : regA (readC Q u) (insOf u).b = regN (readC Q u).rg nb := by unfold regA; rw [hnb, Int.toNat_natCast]
  have ec : regA (readC Q u) (insOf u).c = regN (readC Q u).rg nc := by unfold regA; rw [hnc, Int.toNat_natCast]
  have p1 := h.co.ok.pos.read u |>.reg (insOf u).b
  have p2 := h.co.ok.pos.read u |>.reg (insOf u).c
  rw [eb] at p1
  rw [ec] at p2
  have HV := Lib.hid (doV_pos 7 (b := regN (readC Q u).rg nb) (c := regN (readC Q u).rg nc) p1)
  have GD := Lib.hid (fun (w' : World) => gdo_any 7 (regN (readC Q u).rg nb) (regN (readC Q u).rg nc) p2 w' |>.mono fun _ _ h => (⟨h.1, h.2 ▸ Chg.mapW _ _⟩ : _ ∧ Chg [] w' _))
  rw [eb, ec, hk, hna]
  clear eb ec p1 p2
  have h8 : (readC Q u).rg.length = 8 := h.co.ok.h8
  clear h hI hN hn hR hR2 hT hru hx hd DH RU ga gb gc gm hg hpl hpn hp
  generalize insOf u = i at *
  generalize readC Q u = Q1 at *
  go_enter Tryz.func17, Tryz.ntmps17
  try dsimp only [List.append]
  go_wp2_with (first | (go_at_call 15; refine HRU.out.mono ?_; rintro e w' ⟨rfl, rfl⟩) | (go_at_call 41; refine HD.out.mono ?_; rintro e w1 ⟨rfl, hC1, hc1⟩; have hb1 := hC1.own; have H1 := Lib.hid (H1.out w1 hc1 hC1); have C1 := Lib.hid hc1; clear hC1 hc1))
  have hx2 : (w1.alloc (.cells (insc i) 33)).heap[w1.heap.size]? = some (.cells (insc i) 33 (0, 0)) := by simp
  have C2 := Lib.hid (show Chg [] w1 (w1.alloc (.cells (insc i) 33)) from (Chg.refl [] w1).alloc _)
  have hb2 := C2.out.keep hb1 (by simp)
  have H2 := Lib.hid (H1.out.keep0 C2.out)
  have HPK := Lib.hid (show w1.heap.size ≠ kb ∧ w1.heap.size ∉ F from ⟨by have := H1.out.co.oldk.lt; omega, fun hm => by have := H1.out.old _ hm; omega⟩)
  have G2 := Lib.hid (show Chg (kb :: pb :: qb :: F) w (w1.alloc (.cells (insc i) 33)) from chg_core ((C1.out.mono (by simp)).trans (C2.out.mono (by simp))))
  clear hb1 H1 C1 C2 HD HRU
  generalize w1.alloc (.cells (insc i) 33) = w2 at *
  generalize w1.heap.size = p at *
  have o2 := old hb2
  have ox2 := old hx2
  have n1 : ¬ p = kb := HPK.out.1
  have n2 : ¬ kb = p := fun e => HPK.out.1 e.symm
  have R1 : ∀ y : Aft w2.heap.size w2, y.w.heap[p]? = some (.cells (insc i) 33 (0, 0)) := fun y => (y.block ox2.lt).trans hx2
  have R2 : ∀ y : Aft w2.heap.size w2, y.w.heap[kb]? = some (.cells (coc Q1.id Q1.ru Q1.rg pb Q1.pr.length Q1.pc qb Q1.wt) 98 (0, 0)) := fun y => (y.block o2.lt).trans hb2
  refine wp_region_aft_loose w2.heap.size 26 22 (by kernel_rfl) (by kernel_rfl) (fun ou v a ho hy => by
    obtain rfl := Option.some.inj ho
    exact extract_yields rfl ⟨⟨w2, Below.refl _ _⟩, rfl⟩ hy) (fun d v c a w h => by cases d <;> exact h) ?_
  simp only [List.take_succ_cons, List.take_zero, List.drop_succ_cons, List.drop_zero]
  repeat (go_big_quiet_step (first | (go_at_call 43; exact calls_aftC (Nat.le_refl _) (GD.out _))))
  refine wpQuiet_nil ?_
  rintro _ ⟨y, rfl⟩
  have CY := Lib.hid (Below.chg y.below (Nat.le_refl _))
  have H3 := Lib.hid (H2.out.keep0 CY.out)
  have r1 := R1 y
  have r2 := R2 y
  generalize y.w = w3 at *
  go_wp2_with fail
  refine (EN.out _ _ (H3.out.setReg la HV.out) HP.out).mono ?_
  rintro e w4 ⟨v, F', rfl, hd⟩
  go_wp2_with fail
  go_ret
  exact CSTo.from ((G2.out.trans (CY.out.mono (by simp))).trans (chg_core ((Chg.refl [kb, pb, qb] w3).setCell kb _ _ (.inl (by simp))))) (fun k hk => .inl hk) ⟨v, F', rfl, hd⟩
end
end Go.Proofs.YtcjoinhngdfdmaaGreatDoor
end
section
namespace Go.Proofs.YtcjoinhngdfdmaaGreatDoor
open Go.RowKit
set_option linter.unusedVariables false
set_option maxHeartbeats 1000000

set_option maxRecDepth 100000
attribute [local go_sem ↓] append_appS copy_copS clear_clrS make_mkS cell_row frozen_row heap_drew heap_drewN heap_alloc heap_past heap_setCell heap_putRow loadSe storeSe loadIns storeIns loadEv storeEv loadRg storeRg sec_kd sec_li sec_wo sec_va sec_sn insc_op insc_a insc_b insc_c insc_im evc_kd evc_co evc_li evc_wo evc_va coc_id coc_ru coc_reg coc_pr coc_pc coc_qb coc_wt
attribute [local go_sem] rowCell_some rowFrozen_some rowHas_some rowIn_some rowPart_full rowPut_full rowSet_some run_loadS run_storeS run_appS run_copS run_clrS run_mkS loadW_at storeW_at fit_all fit_le one_int one_bool one_pointer one_slice allOne_list putRow_new ne_size1 ne_size2 wideSe wideIns wideEv wideRg sec_size sec_one sec_lit sec_z sec_ne sec_set0 sec_set1 sec_set2 sec_set3 seZ_kd seZ_li seZ_wo seZ_va seZ_sn insc_size insc_one insc_ne insc_lit insc_z evc_size evc_one evc_ne evc_lit evc_z evc_set0 evc_set1 evc_set2 evc_set3 evc_set4 evZ_kd evZ_co evZ_li evZ_wo evZ_va fold_evc coc_setRu coc_size coc_setPc coc_setWt coc_setReg coc_regs vs_size vs_one
attribute [local simp ↓] heap_drew heap_drewN heap_alloc heap_past heap_setCell heap_putRow
attribute [local simp] rowCell_some rowFrozen_some rowHas_some rowIn_some rowPart_full rowPut_full rowSet_some fit_all putRow_new ne_size1 ne_size2 sec_size insc_size evc_size coc_size coc_setRu coc_setPc coc_setWt coc_setReg vs_size fit_le
attribute [local go_sem ↓] heap_drewN
/-- Exec does what the document says, whatever the word is. -/
theorem yexec {W w : World} {c : Cg} {sy n : Nat} {F : List Nat} {S : Mst} {cur : Nat → List Int} {kb pb qb : Nat} {Q : Co} (h : CS W w c sy F S kb pb qb Q) (hI : Inv c n S cur) (hN : NN cur) (hn : n + 1 ≤ 1000000000) (hR : Roomy c S) (hR2 : ∀ li wo, Roomy c (loadM c S Q.id li wo).1) (hT : Tab W) :
    Calls Tryz.prog 17 #[.pointer (some ⟨kb, 0, none⟩), .pointer (some ⟨sy, 0, none⟩)] w (CSTo W w c sy F kb pb qb (execC c S Q).S (execC c S Q).Q (execC c S Q).ev) := by
  by_cases hA : noAlu Q
  · exact xexec h hI hN hn hR hR2 hT hA
  · unfold noAlu at hA
    simp only [Classical.not_forall] at hA
    obtain ⟨u, r, hx, hd, hop⟩ := hA
    have h2 : 2 ≤ (insOf u).op ∧ (insOf u).op ≤ 7 := by omega
    cases hru : Q.ru
    · unfold execC
      rw [hru]
      exact xexec_off h hru sy
    have e : execC c S Q = ⟨S, nextC (setR (readC Q u) (insOf u).a (doV (insOf u).op (regA (readC Q u) (insOf u).b) (regA (readC Q u) (insOf u).c))), []⟩ := by
      unfold execC
      rw [hru, if_pos rfl, hx]
      dsimp only
      rw [if_pos hd]
      unfold insC
      rw [if_neg (by omega), if_neg (by omega), if_pos h2.2]
    rw [e]
    rcases (show (insOf u).op = 2 ∨ (insOf u).op = 3 ∨ (insOf u).op = 4 ∨ (insOf u).op = 5 ∨ (insOf u).op = 6 ∨ (insOf u).op = 7 by omega) with hk | hk | hk | hk | hk | hk
    · exact xexec_2 h hI hN hn hR hR2 hT hru hx hd hk
    · exact xexec_3 h hI hN hn hR hR2 hT hru hx hd hk
    · exact xexec_4 h hI hN hn hR hR2 hT hru hx hd hk
    · exact xexec_5 h hI hN hn hR hR2 hT hru hx hd hk
    · exact xexec_6 h hI hN hn hR hR2 hT hru hx hd hk
    · exact xexec_7 h hI hN hn hR hR2 hT hru hx hd hk
end Go.Proofs.YtcjoinhngdfdmaaGreatDoor
end
