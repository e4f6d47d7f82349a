/- The statements of layer 1, walked: the words of a line, shapes, the way back, places apart. -/
import Derived.Test.YtaidbofadmefkaaWordb
import Derived.Test.YtaidbofadmefkaaWordc
namespace Go.Proofs.Ytaidbofadmefkaa
open Go.RowKit
set_option linter.unusedVariables false

theorem eq_ints_some {P : Program} (w : World) {t e : TypeId} {n : Nat} {k : IntKind} (hu : P.underlying t = some (.array n e)) (hi : (P.info? e).isSome = true) (he : P.underlying e = some (.int k)) (hc : P.cellsOf e = 1) (ns ms : List Int)
    (hn : ns.length = n) (hm : ms.length = n) : (Op.equalIn 10000 t (.agg (ns.map (Value.int k)).toArray) (.agg (ms.map (Value.int k)).toArray)).run P w = .ok (ns == ms) w := by
  obtain ⟨i, h⟩ := Option.isSome_iff_exists.1 hi
  exact eq_ints_array w hu h he hc ns ms hn hm

theorem get_3 (a0 a1 a2 a3 a4 a5 a6 a7 : Int) (w : World) : Calls Try.prog 7 #[.agg #[.int .u64 a0, .int .u64 a1, .int .u64 a2, .int .u64 a3, .int .u64 a4, .int .u64 a5, .int .u64 a6, .int .u64 a7], .int .i64 3] w fun e w' => e = .returned (.int .u64 a3) ∧ w' = w.alloc (.cells #[.int .u64 a0, .int .u64 a1, .int .u64 a2, .int .u64 a3, .int .u64 a4, .int .u64 a5, .int .u64 a6, .int .u64 a7] 24) :=
  get_in a0 a1 a2 a3 a4 a5 a6 a7 3 w (by decide) (by decide)

theorem wakes_true (w : World) : Calls Try.prog 11 #[] w fun e w' => e = .returned (.bool true) ∧ Below w.heap.size w w' := by
  go_enter Try.func11, Try.ntmps11
  go_wp2_with (first
      | (go_at_call_of 15 (Value.int .u64 72); refine (at_ok _ _ _ (by decide) (by decide) (by decide) (by decide) (by decide)).mono ?_; rintro e w' ⟨rfl, rfl⟩)
      | (go_at_call_of 15 (Value.int .u64 73); refine (at_odd _ _ _ (by decide) (by decide) (by decide) (by decide)).mono ?_; rintro e w' ⟨rfl, rfl⟩)
      | (go_at_call 16; refine (addr_ok _ _ _ (by decide) (by decide) (by decide) (by decide)).mono ?_; rintro e w' ⟨rfl, rfl⟩)
      | (go_at_call 9; refine (put_3 _ _ _ _ _ _ _ _ _ _).mono ?_; rintro e w' ⟨rfl, c1, c2, rfl⟩)
      | (go_at_call 7; refine (get_3 _ _ _ _ _ _ _ _ _).mono ?_; rintro e w' ⟨rfl, rfl⟩)
      | (go_at_call 12; refine (good_7 _ _ _ _ _ _ _ _ (by decide) (by decide) (by decide) (by decide) (by decide) (by decide) (by decide) (by decide) (by decide) (by decide) (by decide) (by decide) (by decide)).mono ?_; rintro e w' ⟨rfl, rfl⟩))
  go_ret
  exact ⟨rfl, by repeat (first | exact Below.refl _ _ | refine Below.drew ?_ | refine Below.alloc ?_ (by simp; try omega) _ | refine Below.setCell ?_ (by simp; try omega) _)⟩

theorem lines_0 (a0 a1 a2 a3 a4 a5 a6 a7 v : Int) (w : World) :
    Calls Try.prog 3 #[.agg #[.int .u64 a0, .int .u64 a1, .int .u64 a2, .int .u64 a3, .int .u64 a4, .int .u64 a5, .int .u64 a6, .int .u64 a7], .int .i64 0, .int .u64 v] w fun e w' => e = .returned (.bool true) ∧ Below w.heap.size w w' := by
  have fc : ∀ (x : Aft (w.heap.size + 1) (w.alloc (.cells #[.int .u64 a0, .int .u64 a1, .int .u64 a2, .int .u64 a3, .int .u64 a4, .int .u64 a5, .int .u64 a6, .int .u64 a7] 24))) (o : Nat), x.w.cell? ⟨w.heap.size, o, none⟩ = (w.alloc (.cells #[.int .u64 a0, .int .u64 a1, .int .u64 a2, .int .u64 a3, .int .u64 a4, .int .u64 a5, .int .u64 a6, .int .u64 a7] 24)).cell? ⟨w.heap.size, o, none⟩ := fun x o => x.cell (by omega) o
  have fh : ∀ (x : Aft (w.heap.size + 1) (w.alloc (.cells #[.int .u64 a0, .int .u64 a1, .int .u64 a2, .int .u64 a3, .int .u64 a4, .int .u64 a5, .int .u64 a6, .int .u64 a7] 24))), x.w.heap[w.heap.size]? = (w.alloc (.cells #[.int .u64 a0, .int .u64 a1, .int .u64 a2, .int .u64 a3, .int .u64 a4, .int .u64 a5, .int .u64 a6, .int .u64 a7] 24)).heap[w.heap.size]? := fun x => x.block (by omega)
  have he : ∀ W : World, (Op.equalIn 10000 24 (.agg #[.int .u64 v, .int .u64 a1, .int .u64 a2, .int .u64 a3, .int .u64 a4, .int .u64 a5, .int .u64 a6, .int .u64 a7]) (.agg #[.int .u64 v, .int .u64 a1, .int .u64 a2, .int .u64 a3, .int .u64 a4, .int .u64 a5, .int .u64 a6, .int .u64 a7])).run Try.prog W = .ok true W := fun W => by
    simpa using eq_ints_some W Try.underlying24 (by kernel_rfl) Try.underlying22 (by kernel_rfl) [v, a1, a2, a3, a4, a5, a6, a7] [v, a1, a2, a3, a4, a5, a6, a7] rfl rfl
  go_enter Try.func3, Try.ntmps3
  go_wp2_with fail
  refine wp_region_aft (w.heap.size + 1) (by kernel_rfl) (by kernel_rfl) ?_
  repeat (go_big_quiet_step (first
     | (go_at_call 7; exact calls_aft (by simp) (below1 (get_in _ _ _ _ _ _ _ _ _ _ (by decide) (by decide))))
     | (go_at_call 8; exact calls_aft (by simp) (below1 (rget_in _ _ _ _ _ _ _ _ _ _ (by decide) (by decide))))
     | (go_at_call 9; exact calls_aft (by simp) (below2 (put_0 _ _ _ _ _ _ _ _ _ _)))
     | (go_at_call 10; exact calls_aft (by simp) (below2 (rput_0 _ _ _ _ _ _ _ _ _ _)))
     | (go_at_call 11; exact calls_aft (by simp) (wakes_true _))))
  refine wpQuiet_nil ?_
  rintro _ ⟨x, rfl⟩
  go_wp2
  go_ret
  exact ⟨rfl, ((Below.refl _ _).alloc (Nat.le_refl _) _).trans (x.below.mono (by omega))⟩
theorem lines_1 (a0 a1 a2 a3 a4 a5 a6 a7 v : Int) (w : World) :
    Calls Try.prog 3 #[.agg #[.int .u64 a0, .int .u64 a1, .int .u64 a2, .int .u64 a3, .int .u64 a4, .int .u64 a5, .int .u64 a6, .int .u64 a7], .int .i64 1, .int .u64 v] w fun e w' => e = .returned (.bool true) ∧ Below w.heap.size w w' := by
  have fc : ∀ (x : Aft (w.heap.size + 1) (w.alloc (.cells #[.int .u64 a0, .int .u64 a1, .int .u64 a2, .int .u64 a3, .int .u64 a4, .int .u64 a5, .int .u64 a6, .int .u64 a7] 24))) (o : Nat), x.w.cell? ⟨w.heap.size, o, none⟩ = (w.alloc (.cells #[.int .u64 a0, .int .u64 a1, .int .u64 a2, .int .u64 a3, .int .u64 a4, .int .u64 a5, .int .u64 a6, .int .u64 a7] 24)).cell? ⟨w.heap.size, o, none⟩ := fun x o => x.cell (by omega) o
  have fh : ∀ (x : Aft (w.heap.size + 1) (w.alloc (.cells #[.int .u64 a0, .int .u64 a1, .int .u64 a2, .int .u64 a3, .int .u64 a4, .int .u64 a5, .int .u64 a6, .int .u64 a7] 24))), x.w.heap[w.heap.size]? = (w.alloc (.cells #[.int .u64 a0, .int .u64 a1, .int .u64 a2, .int .u64 a3, .int .u64 a4, .int .u64 a5, .int .u64 a6, .int .u64 a7] 24)).heap[w.heap.size]? := fun x => x.block (by omega)
  have he : ∀ W : World, (Op.equalIn 10000 24 (.agg #[.int .u64 a0, .int .u64 v, .int .u64 a2, .int .u64 a3, .int .u64 a4, .int .u64 a5, .int .u64 a6, .int .u64 a7]) (.agg #[.int .u64 a0, .int .u64 v, .int .u64 a2, .int .u64 a3, .int .u64 a4, .int .u64 a5, .int .u64 a6, .int .u64 a7])).run Try.prog W = .ok true W := fun W => by
    simpa using eq_ints_some W Try.underlying24 (by kernel_rfl) Try.underlying22 (by kernel_rfl) [a0, v, a2, a3, a4, a5, a6, a7] [a0, v, a2, a3, a4, a5, a6, a7] rfl rfl
  go_enter Try.func3, Try.ntmps3
  go_wp2_with fail
  refine wp_region_aft (w.heap.size + 1) (by kernel_rfl) (by kernel_rfl) ?_
  repeat (go_big_quiet_step (first
     | (go_at_call 7; exact calls_aft (by simp) (below1 (get_in _ _ _ _ _ _ _ _ _ _ (by decide) (by decide))))
     | (go_at_call 8; exact calls_aft (by simp) (below1 (rget_in _ _ _ _ _ _ _ _ _ _ (by decide) (by decide))))
     | (go_at_call 9; exact calls_aft (by simp) (below2 (put_1 _ _ _ _ _ _ _ _ _ _)))
     | (go_at_call 10; exact calls_aft (by simp) (below2 (rput_1 _ _ _ _ _ _ _ _ _ _)))
     | (go_at_call 11; exact calls_aft (by simp) (wakes_true _))))
  refine wpQuiet_nil ?_
  rintro _ ⟨x, rfl⟩
  go_wp2
  go_ret
  exact ⟨rfl, ((Below.refl _ _).alloc (Nat.le_refl _) _).trans (x.below.mono (by omega))⟩
theorem lines_2 (a0 a1 a2 a3 a4 a5 a6 a7 v : Int) (w : World) :
    Calls Try.prog 3 #[.agg #[.int .u64 a0, .int .u64 a1, .int .u64 a2, .int .u64 a3, .int .u64 a4, .int .u64 a5, .int .u64 a6, .int .u64 a7], .int .i64 2, .int .u64 v] w fun e w' => e = .returned (.bool true) ∧ Below w.heap.size w w' := by
  have fc : ∀ (x : Aft (w.heap.size + 1) (w.alloc (.cells #[.int .u64 a0, .int .u64 a1, .int .u64 a2, .int .u64 a3, .int .u64 a4, .int .u64 a5, .int .u64 a6, .int .u64 a7] 24))) (o : Nat), x.w.cell? ⟨w.heap.size, o, none⟩ = (w.alloc (.cells #[.int .u64 a0, .int .u64 a1, .int .u64 a2, .int .u64 a3, .int .u64 a4, .int .u64 a5, .int .u64 a6, .int .u64 a7] 24)).cell? ⟨w.heap.size, o, none⟩ := fun x o => x.cell (by omega) o
  have fh : ∀ (x : Aft (w.heap.size + 1) (w.alloc (.cells #[.int .u64 a0, .int .u64 a1, .int .u64 a2, .int .u64 a3, .int .u64 a4, .int .u64 a5, .int .u64 a6, .int .u64 a7] 24))), x.w.heap[w.heap.size]? = (w.alloc (.cells #[.int .u64 a0, .int .u64 a1, .int .u64 a2, .int .u64 a3, .int .u64 a4, .int .u64 a5, .int .u64 a6, .int .u64 a7] 24)).heap[w.heap.size]? := fun x => x.block (by omega)
  have he : ∀ W : World, (Op.equalIn 10000 24 (.agg #[.int .u64 a0, .int .u64 a1, .int .u64 v, .int .u64 a3, .int .u64 a4, .int .u64 a5, .int .u64 a6, .int .u64 a7]) (.agg #[.int .u64 a0, .int .u64 a1, .int .u64 v, .int .u64 a3, .int .u64 a4, .int .u64 a5, .int .u64 a6, .int .u64 a7])).run Try.prog W = .ok true W := fun W => by
    simpa using eq_ints_some W Try.underlying24 (by kernel_rfl) Try.underlying22 (by kernel_rfl) [a0, a1, v, a3, a4, a5, a6, a7] [a0, a1, v, a3, a4, a5, a6, a7] rfl rfl
  go_enter Try.func3, Try.ntmps3
  go_wp2_with fail
  refine wp_region_aft (w.heap.size + 1) (by kernel_rfl) (by kernel_rfl) ?_
  repeat (go_big_quiet_step (first
     | (go_at_call 7; exact calls_aft (by simp) (below1 (get_in _ _ _ _ _ _ _ _ _ _ (by decide) (by decide))))
     | (go_at_call 8; exact calls_aft (by simp) (below1 (rget_in _ _ _ _ _ _ _ _ _ _ (by decide) (by decide))))
     | (go_at_call 9; exact calls_aft (by simp) (below2 (put_2 _ _ _ _ _ _ _ _ _ _)))
     | (go_at_call 10; exact calls_aft (by simp) (below2 (rput_2 _ _ _ _ _ _ _ _ _ _)))
     | (go_at_call 11; exact calls_aft (by simp) (wakes_true _))))
  refine wpQuiet_nil ?_
  rintro _ ⟨x, rfl⟩
  go_wp2
  go_ret
  exact ⟨rfl, ((Below.refl _ _).alloc (Nat.le_refl _) _).trans (x.below.mono (by omega))⟩
theorem lines_3 (a0 a1 a2 a3 a4 a5 a6 a7 v : Int) (w : World) :
    Calls Try.prog 3 #[.agg #[.int .u64 a0, .int .u64 a1, .int .u64 a2, .int .u64 a3, .int .u64 a4, .int .u64 a5, .int .u64 a6, .int .u64 a7], .int .i64 3, .int .u64 v] w fun e w' => e = .returned (.bool true) ∧ Below w.heap.size w w' := by
  have fc : ∀ (x : Aft (w.heap.size + 1) (w.alloc (.cells #[.int .u64 a0, .int .u64 a1, .int .u64 a2, .int .u64 a3, .int .u64 a4, .int .u64 a5, .int .u64 a6, .int .u64 a7] 24))) (o : Nat), x.w.cell? ⟨w.heap.size, o, none⟩ = (w.alloc (.cells #[.int .u64 a0, .int .u64 a1, .int .u64 a2, .int .u64 a3, .int .u64 a4, .int .u64 a5, .int .u64 a6, .int .u64 a7] 24)).cell? ⟨w.heap.size, o, none⟩ := fun x o => x.cell (by omega) o
  have fh : ∀ (x : Aft (w.heap.size + 1) (w.alloc (.cells #[.int .u64 a0, .int .u64 a1, .int .u64 a2, .int .u64 a3, .int .u64 a4, .int .u64 a5, .int .u64 a6, .int .u64 a7] 24))), x.w.heap[w.heap.size]? = (w.alloc (.cells #[.int .u64 a0, .int .u64 a1, .int .u64 a2, .int .u64 a3, .int .u64 a4, .int .u64 a5, .int .u64 a6, .int .u64 a7] 24)).heap[w.heap.size]? := fun x => x.block (by omega)
  have he : ∀ W : World, (Op.equalIn 10000 24 (.agg #[.int .u64 a0, .int .u64 a1, .int .u64 a2, .int .u64 v, .int .u64 a4, .int .u64 a5, .int .u64 a6, .int .u64 a7]) (.agg #[.int .u64 a0, .int .u64 a1, .int .u64 a2, .int .u64 v, .int .u64 a4, .int .u64 a5, .int .u64 a6, .int .u64 a7])).run Try.prog W = .ok true W := fun W => by
    simpa using eq_ints_some W Try.underlying24 (by kernel_rfl) Try.underlying22 (by kernel_rfl) [a0, a1, a2, v, a4, a5, a6, a7] [a0, a1, a2, v, a4, a5, a6, a7] rfl rfl
  go_enter Try.func3, Try.ntmps3
  go_wp2_with fail
  refine wp_region_aft (w.heap.size + 1) (by kernel_rfl) (by kernel_rfl) ?_
  repeat (go_big_quiet_step (first
     | (go_at_call 7; exact calls_aft (by simp) (below1 (get_in _ _ _ _ _ _ _ _ _ _ (by decide) (by decide))))
     | (go_at_call 8; exact calls_aft (by simp) (below1 (rget_in _ _ _ _ _ _ _ _ _ _ (by decide) (by decide))))
     | (go_at_call 9; exact calls_aft (by simp) (below2 (put_3 _ _ _ _ _ _ _ _ _ _)))
     | (go_at_call 10; exact calls_aft (by simp) (below2 (rput_3 _ _ _ _ _ _ _ _ _ _)))
     | (go_at_call 11; exact calls_aft (by simp) (wakes_true _))))
  refine wpQuiet_nil ?_
  rintro _ ⟨x, rfl⟩
  go_wp2
  go_ret
  exact ⟨rfl, ((Below.refl _ _).alloc (Nat.le_refl _) _).trans (x.below.mono (by omega))⟩
theorem lines_4 (a0 a1 a2 a3 a4 a5 a6 a7 v : Int) (w : World) :
    Calls Try.prog 3 #[.agg #[.int .u64 a0, .int .u64 a1, .int .u64 a2, .int .u64 a3, .int .u64 a4, .int .u64 a5, .int .u64 a6, .int .u64 a7], .int .i64 4, .int .u64 v] w fun e w' => e = .returned (.bool true) ∧ Below w.heap.size w w' := by
  have fc : ∀ (x : Aft (w.heap.size + 1) (w.alloc (.cells #[.int .u64 a0, .int .u64 a1, .int .u64 a2, .int .u64 a3, .int .u64 a4, .int .u64 a5, .int .u64 a6, .int .u64 a7] 24))) (o : Nat), x.w.cell? ⟨w.heap.size, o, none⟩ = (w.alloc (.cells #[.int .u64 a0, .int .u64 a1, .int .u64 a2, .int .u64 a3, .int .u64 a4, .int .u64 a5, .int .u64 a6, .int .u64 a7] 24)).cell? ⟨w.heap.size, o, none⟩ := fun x o => x.cell (by omega) o
  have fh : ∀ (x : Aft (w.heap.size + 1) (w.alloc (.cells #[.int .u64 a0, .int .u64 a1, .int .u64 a2, .int .u64 a3, .int .u64 a4, .int .u64 a5, .int .u64 a6, .int .u64 a7] 24))), x.w.heap[w.heap.size]? = (w.alloc (.cells #[.int .u64 a0, .int .u64 a1, .int .u64 a2, .int .u64 a3, .int .u64 a4, .int .u64 a5, .int .u64 a6, .int .u64 a7] 24)).heap[w.heap.size]? := fun x => x.block (by omega)
  have he : ∀ W : World, (Op.equalIn 10000 24 (.agg #[.int .u64 a0, .int .u64 a1, .int .u64 a2, .int .u64 a3, .int .u64 v, .int .u64 a5, .int .u64 a6, .int .u64 a7]) (.agg #[.int .u64 a0, .int .u64 a1, .int .u64 a2, .int .u64 a3, .int .u64 v, .int .u64 a5, .int .u64 a6, .int .u64 a7])).run Try.prog W = .ok true W := fun W => by
    simpa using eq_ints_some W Try.underlying24 (by kernel_rfl) Try.underlying22 (by kernel_rfl) [a0, a1, a2, a3, v, a5, a6, a7] [a0, a1, a2, a3, v, a5, a6, a7] rfl rfl
  go_enter Try.func3, Try.ntmps3
  go_wp2_with fail
  refine wp_region_aft (w.heap.size + 1) (by kernel_rfl) (by kernel_rfl) ?_
  repeat (go_big_quiet_step (first
     | (go_at_call 7; exact calls_aft (by simp) (below1 (get_in _ _ _ _ _ _ _ _ _ _ (by decide) (by decide))))
     | (go_at_call 8; exact calls_aft (by simp) (below1 (rget_in _ _ _ _ _ _ _ _ _ _ (by decide) (by decide))))
     | (go_at_call 9; exact calls_aft (by simp) (below2 (put_4 _ _ _ _ _ _ _ _ _ _)))
     | (go_at_call 10; exact calls_aft (by simp) (below2 (rput_4 _ _ _ _ _ _ _ _ _ _)))
     | (go_at_call 11; exact calls_aft (by simp) (wakes_true _))))
  refine wpQuiet_nil ?_
  rintro _ ⟨x, rfl⟩
  go_wp2
  go_ret
  exact ⟨rfl, ((Below.refl _ _).alloc (Nat.le_refl _) _).trans (x.below.mono (by omega))⟩
theorem lines_5 (a0 a1 a2 a3 a4 a5 a6 a7 v : Int) (w : World) :
    Calls Try.prog 3 #[.agg #[.int .u64 a0, .int .u64 a1, .int .u64 a2, .int .u64 a3, .int .u64 a4, .int .u64 a5, .int .u64 a6, .int .u64 a7], .int .i64 5, .int .u64 v] w fun e w' => e = .returned (.bool true) ∧ Below w.heap.size w w' := by
  have fc : ∀ (x : Aft (w.heap.size + 1) (w.alloc (.cells #[.int .u64 a0, .int .u64 a1, .int .u64 a2, .int .u64 a3, .int .u64 a4, .int .u64 a5, .int .u64 a6, .int .u64 a7] 24))) (o : Nat), x.w.cell? ⟨w.heap.size, o, none⟩ = (w.alloc (.cells #[.int .u64 a0, .int .u64 a1, .int .u64 a2, .int .u64 a3, .int .u64 a4, .int .u64 a5, .int .u64 a6, .int .u64 a7] 24)).cell? ⟨w.heap.size, o, none⟩ := fun x o => x.cell (by omega) o
  have fh : ∀ (x : Aft (w.heap.size + 1) (w.alloc (.cells #[.int .u64 a0, .int .u64 a1, .int .u64 a2, .int .u64 a3, .int .u64 a4, .int .u64 a5, .int .u64 a6, .int .u64 a7] 24))), x.w.heap[w.heap.size]? = (w.alloc (.cells #[.int .u64 a0, .int .u64 a1, .int .u64 a2, .int .u64 a3, .int .u64 a4, .int .u64 a5, .int .u64 a6, .int .u64 a7] 24)).heap[w.heap.size]? := fun x => x.block (by omega)
  have he : ∀ W : World, (Op.equalIn 10000 24 (.agg #[.int .u64 a0, .int .u64 a1, .int .u64 a2, .int .u64 a3, .int .u64 a4, .int .u64 v, .int .u64 a6, .int .u64 a7]) (.agg #[.int .u64 a0, .int .u64 a1, .int .u64 a2, .int .u64 a3, .int .u64 a4, .int .u64 v, .int .u64 a6, .int .u64 a7])).run Try.prog W = .ok true W := fun W => by
    simpa using eq_ints_some W Try.underlying24 (by kernel_rfl) Try.underlying22 (by kernel_rfl) [a0, a1, a2, a3, a4, v, a6, a7] [a0, a1, a2, a3, a4, v, a6, a7] rfl rfl
  go_enter Try.func3, Try.ntmps3
  go_wp2_with fail
  refine wp_region_aft (w.heap.size + 1) (by kernel_rfl) (by kernel_rfl) ?_
  repeat (go_big_quiet_step (first
     | (go_at_call 7; exact calls_aft (by simp) (below1 (get_in _ _ _ _ _ _ _ _ _ _ (by decide) (by decide))))
     | (go_at_call 8; exact calls_aft (by simp) (below1 (rget_in _ _ _ _ _ _ _ _ _ _ (by decide) (by decide))))
     | (go_at_call 9; exact calls_aft (by simp) (below2 (put_5 _ _ _ _ _ _ _ _ _ _)))
     | (go_at_call 10; exact calls_aft (by simp) (below2 (rput_5 _ _ _ _ _ _ _ _ _ _)))
     | (go_at_call 11; exact calls_aft (by simp) (wakes_true _))))
  refine wpQuiet_nil ?_
  rintro _ ⟨x, rfl⟩
  go_wp2
  go_ret
  exact ⟨rfl, ((Below.refl _ _).alloc (Nat.le_refl _) _).trans (x.below.mono (by omega))⟩
theorem lines_6 (a0 a1 a2 a3 a4 a5 a6 a7 v : Int) (w : World) :
    Calls Try.prog 3 #[.agg #[.int .u64 a0, .int .u64 a1, .int .u64 a2, .int .u64 a3, .int .u64 a4, .int .u64 a5, .int .u64 a6, .int .u64 a7], .int .i64 6, .int .u64 v] w fun e w' => e = .returned (.bool true) ∧ Below w.heap.size w w' := by
  have fc : ∀ (x : Aft (w.heap.size + 1) (w.alloc (.cells #[.int .u64 a0, .int .u64 a1, .int .u64 a2, .int .u64 a3, .int .u64 a4, .int .u64 a5, .int .u64 a6, .int .u64 a7] 24))) (o : Nat), x.w.cell? ⟨w.heap.size, o, none⟩ = (w.alloc (.cells #[.int .u64 a0, .int .u64 a1, .int .u64 a2, .int .u64 a3, .int .u64 a4, .int .u64 a5, .int .u64 a6, .int .u64 a7] 24)).cell? ⟨w.heap.size, o, none⟩ := fun x o => x.cell (by omega) o
  have fh : ∀ (x : Aft (w.heap.size + 1) (w.alloc (.cells #[.int .u64 a0, .int .u64 a1, .int .u64 a2, .int .u64 a3, .int .u64 a4, .int .u64 a5, .int .u64 a6, .int .u64 a7] 24))), x.w.heap[w.heap.size]? = (w.alloc (.cells #[.int .u64 a0, .int .u64 a1, .int .u64 a2, .int .u64 a3, .int .u64 a4, .int .u64 a5, .int .u64 a6, .int .u64 a7] 24)).heap[w.heap.size]? := fun x => x.block (by omega)
  have he : ∀ W : World, (Op.equalIn 10000 24 (.agg #[.int .u64 a0, .int .u64 a1, .int .u64 a2, .int .u64 a3, .int .u64 a4, .int .u64 a5, .int .u64 v, .int .u64 a7]) (.agg #[.int .u64 a0, .int .u64 a1, .int .u64 a2, .int .u64 a3, .int .u64 a4, .int .u64 a5, .int .u64 v, .int .u64 a7])).run Try.prog W = .ok true W := fun W => by
    simpa using eq_ints_some W Try.underlying24 (by kernel_rfl) Try.underlying22 (by kernel_rfl) [a0, a1, a2, a3, a4, a5, v, a7] [a0, a1, a2, a3, a4, a5, v, a7] rfl rfl
  go_enter Try.func3, Try.ntmps3
  go_wp2_with fail
  refine wp_region_aft (w.heap.size + 1) (by kernel_rfl) (by kernel_rfl) ?_
  repeat (go_big_quiet_step (first
     | (go_at_call 7; exact calls_aft (by simp) (below1 (get_in _ _ _ _ _ _ _ _ _ _ (by decide) (by decide))))
     | (go_at_call 8; exact calls_aft (by simp) (below1 (rget_in _ _ _ _ _ _ _ _ _ _ (by decide) (by decide))))
     | (go_at_call 9; exact calls_aft (by simp) (below2 (put_6 _ _ _ _ _ _ _ _ _ _)))
     | (go_at_call 10; exact calls_aft (by simp) (below2 (rput_6 _ _ _ _ _ _ _ _ _ _)))
     | (go_at_call 11; exact calls_aft (by simp) (wakes_true _))))
  refine wpQuiet_nil ?_
  rintro _ ⟨x, rfl⟩
  go_wp2
  go_ret
  exact ⟨rfl, ((Below.refl _ _).alloc (Nat.le_refl _) _).trans (x.below.mono (by omega))⟩
theorem lines_7 (a0 a1 a2 a3 a4 a5 a6 a7 v : Int) (w : World) :
    Calls Try.prog 3 #[.agg #[.int .u64 a0, .int .u64 a1, .int .u64 a2, .int .u64 a3, .int .u64 a4, .int .u64 a5, .int .u64 a6, .int .u64 a7], .int .i64 7, .int .u64 v] w fun e w' => e = .returned (.bool true) ∧ Below w.heap.size w w' := by
  have fc : ∀ (x : Aft (w.heap.size + 1) (w.alloc (.cells #[.int .u64 a0, .int .u64 a1, .int .u64 a2, .int .u64 a3, .int .u64 a4, .int .u64 a5, .int .u64 a6, .int .u64 a7] 24))) (o : Nat), x.w.cell? ⟨w.heap.size, o, none⟩ = (w.alloc (.cells #[.int .u64 a0, .int .u64 a1, .int .u64 a2, .int .u64 a3, .int .u64 a4, .int .u64 a5, .int .u64 a6, .int .u64 a7] 24)).cell? ⟨w.heap.size, o, none⟩ := fun x o => x.cell (by omega) o
  have fh : ∀ (x : Aft (w.heap.size + 1) (w.alloc (.cells #[.int .u64 a0, .int .u64 a1, .int .u64 a2, .int .u64 a3, .int .u64 a4, .int .u64 a5, .int .u64 a6, .int .u64 a7] 24))), x.w.heap[w.heap.size]? = (w.alloc (.cells #[.int .u64 a0, .int .u64 a1, .int .u64 a2, .int .u64 a3, .int .u64 a4, .int .u64 a5, .int .u64 a6, .int .u64 a7] 24)).heap[w.heap.size]? := fun x => x.block (by omega)
  have he : ∀ W : World, (Op.equalIn 10000 24 (.agg #[.int .u64 a0, .int .u64 a1, .int .u64 a2, .int .u64 a3, .int .u64 a4, .int .u64 a5, .int .u64 a6, .int .u64 v]) (.agg #[.int .u64 a0, .int .u64 a1, .int .u64 a2, .int .u64 a3, .int .u64 a4, .int .u64 a5, .int .u64 a6, .int .u64 v])).run Try.prog W = .ok true W := fun W => by
    simpa using eq_ints_some W Try.underlying24 (by kernel_rfl) Try.underlying22 (by kernel_rfl) [a0, a1, a2, a3, a4, a5, a6, v] [a0, a1, a2, a3, a4, a5, a6, v] rfl rfl
  go_enter Try.func3, Try.ntmps3
  go_wp2_with fail
  refine wp_region_aft (w.heap.size + 1) (by kernel_rfl) (by kernel_rfl) ?_
  repeat (go_big_quiet_step (first
     | (go_at_call 7; exact calls_aft (by simp) (below1 (get_in _ _ _ _ _ _ _ _ _ _ (by decide) (by decide))))
     | (go_at_call 8; exact calls_aft (by simp) (below1 (rget_in _ _ _ _ _ _ _ _ _ _ (by decide) (by decide))))
     | (go_at_call 9; exact calls_aft (by simp) (below2 (put_7 _ _ _ _ _ _ _ _ _ _)))
     | (go_at_call 10; exact calls_aft (by simp) (below2 (rput_7 _ _ _ _ _ _ _ _ _ _)))
     | (go_at_call 11; exact calls_aft (by simp) (wakes_true _))))
  refine wpQuiet_nil ?_
  rintro _ ⟨x, rfl⟩
  go_wp2
  go_ret
  exact ⟨rfl, ((Below.refl _ _).alloc (Nat.le_refl _) _).trans (x.below.mono (by omega))⟩
theorem lines_out (a0 a1 a2 a3 a4 a5 a6 a7 n v : Int) (w : World) (h : ¬ (0 ≤ n ∧ n ≤ 7)) :
    Calls Try.prog 3 #[.agg #[.int .u64 a0, .int .u64 a1, .int .u64 a2, .int .u64 a3, .int .u64 a4, .int .u64 a5, .int .u64 a6, .int .u64 a7], .int .i64 n, .int .u64 v] w fun e w' => e = .returned (.bool true) ∧ Below w.heap.size w w' := by
  have fc : ∀ (x : Aft (w.heap.size + 1) (w.alloc (.cells #[.int .u64 a0, .int .u64 a1, .int .u64 a2, .int .u64 a3, .int .u64 a4, .int .u64 a5, .int .u64 a6, .int .u64 a7] 24))) (o : Nat), x.w.cell? ⟨w.heap.size, o, none⟩ = (w.alloc (.cells #[.int .u64 a0, .int .u64 a1, .int .u64 a2, .int .u64 a3, .int .u64 a4, .int .u64 a5, .int .u64 a6, .int .u64 a7] 24)).cell? ⟨w.heap.size, o, none⟩ := fun x o => x.cell (by omega) o
  have fh : ∀ (x : Aft (w.heap.size + 1) (w.alloc (.cells #[.int .u64 a0, .int .u64 a1, .int .u64 a2, .int .u64 a3, .int .u64 a4, .int .u64 a5, .int .u64 a6, .int .u64 a7] 24))), x.w.heap[w.heap.size]? = (w.alloc (.cells #[.int .u64 a0, .int .u64 a1, .int .u64 a2, .int .u64 a3, .int .u64 a4, .int .u64 a5, .int .u64 a6, .int .u64 a7] 24)).heap[w.heap.size]? := fun x => x.block (by omega)
  have he : ∀ W : World, (Op.equalIn 10000 24 (.agg #[.int .u64 a0, .int .u64 a1, .int .u64 a2, .int .u64 a3, .int .u64 a4, .int .u64 a5, .int .u64 a6, .int .u64 a7]) (.agg #[.int .u64 a0, .int .u64 a1, .int .u64 a2, .int .u64 a3, .int .u64 a4, .int .u64 a5, .int .u64 a6, .int .u64 a7])).run Try.prog W = .ok true W := fun W => by
    simpa using eq_ints_some W Try.underlying24 (by kernel_rfl) Try.underlying22 (by kernel_rfl) [a0, a1, a2, a3, a4, a5, a6, a7] [a0, a1, a2, a3, a4, a5, a6, a7] rfl rfl
  have H := Lib.hid h
  clear h
  go_enter Try.func3, Try.ntmps3
  go_wp2_with fail
  refine wp_region_aft (w.heap.size + 1) (by kernel_rfl) (by kernel_rfl) ?_
  repeat (go_big_quiet_step (first
     | (go_at_call 7; exact calls_aft (by simp) (below1 (get_out _ _ _ _ _ _ _ _ _ _ H.out)))
     | (go_at_call 8; exact calls_aft (by simp) (below1 (rget_out _ _ _ _ _ _ _ _ _ _ H.out)))
     | (go_at_call 9; exact calls_aft (by simp) (below2 (put_out _ _ _ _ _ _ _ _ _ _ _ H.out)))
     | (go_at_call 10; exact calls_aft (by simp) (below2 (rput_out _ _ _ _ _ _ _ _ _ _ _ H.out)))
     | (go_at_call 11; exact calls_aft (by simp) (wakes_true _))))
  refine wpQuiet_nil ?_
  rintro _ ⟨x, rfl⟩
  go_wp2
  go_ret
  exact ⟨rfl, ((Below.refl _ _).alloc (Nat.le_refl _) _).trans (x.below.mono (by omega))⟩

theorem shapes_any (c0 c1 c2 c3 c4 c5 c6 : Int) (w : World) : Calls Try.prog 4 #[.agg #[.int .i64 c0, .int .i64 c1, .int .i64 c2, .int .i64 c3, .int .i64 c4, .int .i64 c5, .int .i64 c6]] w fun e w' => e = .returned (.bool true) ∧ Below w.heap.size w w' := by
  have fc : ∀ (x : Aft (w.heap.size + 1) (w.alloc (.cells #[.int .i64 c0, .int .i64 c1, .int .i64 c2, .int .i64 c3, .int .i64 c4, .int .i64 c5, .int .i64 c6] 30))) (o : Nat), x.w.cell? ⟨w.heap.size, o, none⟩ = (w.alloc (.cells #[.int .i64 c0, .int .i64 c1, .int .i64 c2, .int .i64 c3, .int .i64 c4, .int .i64 c5, .int .i64 c6] 30)).cell? ⟨w.heap.size, o, none⟩ := fun x o => x.cell (by omega) o
  have fh : ∀ (x : Aft (w.heap.size + 1) (w.alloc (.cells #[.int .i64 c0, .int .i64 c1, .int .i64 c2, .int .i64 c3, .int .i64 c4, .int .i64 c5, .int .i64 c6] 30))), x.w.heap[w.heap.size]? = (w.alloc (.cells #[.int .i64 c0, .int .i64 c1, .int .i64 c2, .int .i64 c3, .int .i64 c4, .int .i64 c5, .int .i64 c6] 30)).heap[w.heap.size]? := fun x => x.block (by omega)
  go_enter Try.func4, Try.ntmps4
  go_wp2_with fail
  refine wp_region_aft (w.heap.size + 1) (by kernel_rfl) (by kernel_rfl) ?_
  repeat (go_big_quiet_step (first
     | (go_at_call 12; exact calls_aft (by simp) (below1 (good_any _ _ _ _ _ _ _ _)))
     | (go_at_call 13; exact calls_aft (by simp) (below1 (rgood_any _ _ _ _ _ _ _ _)))
     | (go_at_call 11; exact calls_aft (by simp) (wakes_true _))))
  refine wpQuiet_nil ?_
  rintro _ ⟨x, rfl⟩
  go_wp2
  go_ret
  exact ⟨rfl, ((Below.refl _ _).alloc (Nat.le_refl _) _).trans (x.below.mono (by omega))⟩
end Go.Proofs.Ytaidbofadmefkaa
