/- A bus in memory. No condition. -/
import Derived.Test.YtnocekhgabgffaaChecked
import Derived.Test.YtnocekhgabgffaaBum
import Derived.Test.YtnocekhgabgffaaArgs
import Derived.WalkKit
import Derived.Laws.StructEq
import Derived.ChangeKeysEq
namespace Go.Proofs.Ytnocekhgabgffaa
open Go.RowKit
set_option linter.unusedVariables false
set_option maxHeartbeats 1000000

theorem run_ite9 {P : Program} {α : Type} (c : Prop) [Decidable c] (x y : Sem α) (w : World) : (if c then x else y).run P w = if c then x.run P w else y.run P w := by split <;> rfl
theorem spot_eqN (n : Nat) (a b c d : Int) (w : World) : (Op.equalIn (n + 2) 121 (.agg (spC a b)) (.agg (spC c d))).run Try.prog w = .ok (decide ((a, b) = (c, d))) w := by
  have p := fun a b => run_part_plain (P := Try.prog) w (e := 3) (by kernel_rfl) (show (spC a b)[0]? = some (.int .i64 a) from rfl)
  have q := fun a b => run_part_plain (P := Try.prog) w (e := 3) (by kernel_rfl) (show (spC a b)[1]? = some (.int .i64 b) from rfl)
  have e0 := fun a b => run_equalIn_int w n 3 .i64 .i64 a b Try.underlying3
  rw [run_equalIn_struct w (n + 1) 121 _ _ (by simp only [Program.fieldsOf, Try.underlying121]) (by kernel_rfl)]
  simp only [Program.fieldsOf, Try.underlying121]
  simp only [Op.eqFields, ne_eq, String.reduceEq, not_false_eq_true, ↓reduceIte, Sem.run_bind, p, q, e0, Result.andThen_ok, run_ite9, Bool.not_eq_true', Prod.mk.injEq]
  by_cases h1 : a = c
  · by_cases h2 : b = d
    · simp [h1, h2]
    · simp [h1, h2]
  · simp [h1]
theorem spot_eq (a b c d : Int) (w : World) : (Op.equalIn 10000 121 (.agg (spC a b)) (.agg (spC c d))).run Try.prog w = .ok (decide ((a, b) = (c, d))) w := spot_eqN 9998 a b c d w
theorem sizeOf_spot (w : World) : (sizeOf 121).run Try.prog w = .ok 2 w := by kernel_rfl
theorem spot_check (e : Bool) (k : Int × Int) (w : World) : (Instr.checkKey e 10000 121 (spV k)).run Try.prog w = .ok () w := by
  have p := fun a b => run_part_plain (P := Try.prog) w (e := 3) (by kernel_rfl) (show (spC a b)[0]? = some (.int .i64 a) from rfl)
  have q := fun a b => run_part_plain (P := Try.prog) w (e := 3) (by kernel_rfl) (show (spC a b)[1]? = some (.int .i64 b) from rfl)
  have c := fun a => MapKept.run_checkKey (P := Try.prog) (w := w) (d := .int .i64) (k := .int .i64 a) Try.underlying3 (by simp [MapKept.IsKey]) e 9998
  unfold Instr.checkKey spV
  simp only [Sem.run_bind, run_underlying Try.underlying121, Result.andThen_ok]
  rw [← Array.forIn_toList]
  simp [p, q, c, Sem.run_bind]
theorem spot_keyE : KeyE Try.prog 121 spV where
  check := spot_check
  find k ps es w he := by
    unfold Instr.findKey
    simp only [Sem.run_bind, run_underlying Try.underlying121, Result.andThen_ok]
    cases es with
    | nil =>
      have : ps = [] := by simpa using he.symm
      subst this
      rfl
    | cons e0 es0 =>
      have hn : ∀ fs : Array Field, Instr.findNow (.struct fs) (spV k) (e0 :: es0) 0 = none := by
        intro fs; unfold Instr.findNow; unfold spV; rfl
      rw [hn]
      show (Instr.findAsking 121 (spV k) (e0 :: es0) 0).run Try.prog w = _
      generalize 0 = i
      generalize e0 :: es0 = es at he
      induction ps generalizing es i with
      | nil =>
        have : es = [] := by simpa using he
        subst this; rfl
      | cons p ps ih =>
        cases es with
        | nil => cases he
        | cons e es =>
          simp only [List.map_cons, List.cons.injEq, Prod.mk.injEq] at he
          obtain ⟨⟨h1, h2⟩, h3⟩ := he
          obtain ⟨a, v⟩ := p
          simp only at h1 h2
          unfold Instr.findAsking findP
          rw [h1]
          have he : (Op.equal 121 (spV k) (spV a)).run Try.prog w = .ok (decide ((k.1, k.2) = (a.1, a.2))) w := spot_eq _ _ _ _ w
          simp only [Sem.run_bind, he, Result.andThen_ok, run_ite9]
          by_cases hk : a = k
          · subst hk; simp [h2]
          · have : ¬ (k.1, k.2) = (a.1, a.2) := fun h => hk (Prod.ext (congrArg Prod.fst h).symm (congrArg Prod.snd h).symm)
            simp only [decide_eq_true_eq, if_neg this, if_neg hk]
            exact ih (i + 1) es h3
  same k := by simp [Instr.sameBits, spV, spC]
theorem key_int : KeyE Try.prog 3 (fun k : Int => Value.int .i64 k) := int_keyE Try.underlying3
theorem zero_new (w : World) : (zeroValue 118).run Try.prog w = .ok (nwV (0, 0)) w := by kernel_rfl
theorem zero_ints (w : World) : (zeroValue 57).run Try.prog w = .ok (.slice none 0 0) w := by kernel_rfl
theorem zero_doing (w : World) : (zeroValue 113).run Try.prog w = .ok .nilFunc w := by kernel_rfl
theorem be_eq (a b : Be) (w : World) : (Op.equalIn 10000 125 (.agg (bec a)) (.agg (bec b))).run Try.prog w = .ok (decide (a = b)) w := by
  have p := fun a => run_part_plain (P := Try.prog) w (e := 4) (by kernel_rfl) (bec_fl a)
  have q : ∀ a, (part 121 (bec a) 1).run Try.prog w = .ok (.agg (spC a.li a.wo)) w := by
    intro a
    simp [part, isAgg, run_underlying Try.underlying121]
    rfl
  have r := fun a => run_part_plain (P := Try.prog) w (e := 39) (by kernel_rfl) (bec_va a)
  have e0 := fun a b => run_equalIn_bool w 9998 4 a b Try.underlying4
  have e1 := fun a b => run_equalIn_int w 9998 39 .u64 .u64 a b Try.underlying39
  have e2 : ∀ a b c d, (Op.equalIn 9999 121 (.agg (spC a b)) (.agg (spC c d))).run Try.prog w = .ok (decide ((a, b) = (c, d))) w := fun a b c d => spot_eqN 9997 a b c d w
  rw [run_equalIn_struct w 9999 125 _ _ (by simp only [Program.fieldsOf, Try.underlying125]) (by kernel_rfl)]
  simp only [Program.fieldsOf, Try.underlying125]
  simp only [Op.eqFields, ne_eq, String.reduceEq, not_false_eq_true, ↓reduceIte, Sem.run_bind, p, q, r, e0, e1, e2, Result.andThen_ok, run_ite9, Bool.not_eq_true']
  obtain ⟨a1, a2, a3, a4⟩ := a
  obtain ⟨b1, b2, b3, b4⟩ := b
  simp only [Be.mk.injEq]
  by_cases h1 : a1 = b1 <;> by_cases h2 : (a2, a3) = (b2, b3) <;> by_cases h3 : a4 = b4 <;> simp_all
end Go.Proofs.Ytnocekhgabgffaa
