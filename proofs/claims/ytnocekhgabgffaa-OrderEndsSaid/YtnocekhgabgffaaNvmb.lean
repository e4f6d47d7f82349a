/- What the document's own device returns, and leaves; two lists of lines compared; a device made: walked. No condition. -/
import Derived.Test.YtnocekhgabgffaaNvm
namespace Go.Proofs.Ytnocekhgabgffaa
open Go.RowKit
set_option linter.unusedVariables false
attribute [local go_sem ↓] append_appS copy_copS clear_clrS make_mkS cell_row frozen_row loadLine storeLine heap_drew heap_drewN heap_alloc heap_past heap_setCell heap_putRow
attribute [local go_sem] rowCell_some rowFrozen_some rowHas_some rowIn_some rowPart_full rowPart_lit rowPut_full rowPut_lit rowSet_some size_putRow vs_size vs_one wideLine run_loadS run_storeS run_appS run_copS run_clrS run_mkS loadW_at storeW_at fit_all one_int one_bool one_pointer one_slice allOne_list putRow_new ne_size1 ne_size2 ne_size3 ne_size4 zero8_length lines_nil
attribute [local simp ↓] heap_drew heap_drewN heap_alloc heap_past heap_setCell heap_putRow
attribute [local simp] rowCell_some rowFrozen_some rowHas_some rowIn_some rowPart_full rowPart_lit rowPut_full rowPut_lit rowSet_some size_putRow vs_size fit_all putRow_new ne_size1 ne_size2 ne_size3 ne_size4 zero8_length

/-- Lines made. -/
theorem run_make_lines (w : World) (n : Nat) (hn : n ≤ 64) : mkR Try.prog 24 (.int .i64 n) (.int .i64 n) w = .ok (.slice (some ⟨w.heap.size, 0, none⟩) n n) (w.alloc (.cells (bk (List.replicate (n * 8) 0) []) 44)) := by
  obtain ⟨i0, hi0, hz0, hz1, hz2⟩ := info_parts line_info
  have := run_make (P := Try.prog) w 24 44 i0 _ Try.underlying24 hi0 hz0 .i64 .i64 n n (by omega) (by omega) (by rw [hz2]; omega) (by omega)
  simp only [Int.toNat_natCast, hz1] at this
  rw [← made_made]
  exact this

/-- A clone made where it is asked for. -/
theorem clone_run (w : World) (A : Option Addr) (n c : Nat) (xs : List Int) (h : Sl w 8 A n (xs.map (Value.int .u64))) (h0 : 0 < n) (hn : n * 64 ≤ 140737488355328) :
    ∃ (cap : Nat) (r : List Value), n ≤ cap ∧ appR Try.prog 24 24 #[.slice (some ⟨w.heap.size, 0, none⟩) 0 0, .slice A n c] (w.alloc (.cells #[] 44)) =
      .ok (.slice (some ⟨w.heap.size + 1, 0, none⟩) n cap) ((w.alloc (.cells #[] 44)).drew.alloc (.cells (bk xs r) 44)) := by
  obtain ⟨i0, hi0, hz0, hz1, hz2⟩ := info_parts line_info
  have hcl := run_clone (P := Try.prog) (t := 24) (ty := 24) Try.underlying24 hi0 hz0 (w.alloc (.cells #[] 44)) ⟨w.heap.size, 0, none⟩ A n c (xs.map (Value.int .u64)) (by rw [hz1]; exact h.chg ((Chg.refl [] w).alloc _) (by simp)) h0 (by simp only [maxLen]; omega) (by rw [hz2]; exact hn)
  refine ⟨_, (Builtin.zeroCells (Value.agg (vs zero8)).cells (grownCap (w.alloc (.cells #[] 44)) n 0 44 - n)).toList, grownCap_ge (w.alloc (.cells #[] 44)) n 0 44, ?_⟩
  rw [hcl, World.size_alloc]
  rfl
theorem clone_run0 (w : World) (a : Addr) (A : Option Addr) (c : Nat) : appR Try.prog 24 24 #[.slice (some a) 0 0, .slice A 0 c] w = .ok (.slice (some a) 0 0) w := by
  obtain ⟨i0, hi0, hz0, hz1, hz2⟩ := info_parts line_info
  exact run_clone0 Try.underlying24 hi0 w a A c

theorem clone_any (w : World) (A : Option Addr) (n c : Nat) (xs : List Int) (h : Sl w 8 A n (xs.map (Value.int .u64))) (hn : n * 64 ≤ 140737488355328) :
    ∃ (g cap : Nat) (r : List Value) (w' : World), appR Try.prog 24 24 #[.slice (some ⟨w.heap.size, 0, none⟩) 0 0, .slice A n c] (w.alloc (.cells #[] 44)) = .ok (.slice (some ⟨g, 0, none⟩) n cap) w' ∧
      w'.heap[g]? = some (.cells (bk xs r) 44 (0, 0)) ∧ w.heap.size ≤ g ∧ Chg [] w w' := by
  rcases Nat.eq_zero_or_pos n with h0 | h0
  · subst h0
    have hx : xs = [] := List.eq_nil_of_length_eq_zero (by simpa using h.1)
    subst hx
    exact ⟨w.heap.size, 0, [], _, clone_run0 _ _ A c, by simp [bk], Nat.le_refl _, (Chg.refl _ _).alloc _⟩
  · obtain ⟨cap, r, _, hr⟩ := clone_run w A n c xs h h0 hn
    exact ⟨w.heap.size + 1, cap, r, _, hr, by simp, by omega, ((Chg.refl _ _).alloc _).drew.alloc _⟩

/-! ### The document's device -/
end Go.Proofs.Ytnocekhgabgffaa
