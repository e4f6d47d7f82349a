/- Two lists of lines compared; whether steps are fair; what every statement wakes: walked. No condition. -/
import Derived.Test.YtdeloippchnogaaNvmb
namespace Go.Proofs.Ytdeloippchnogaa
open Go.RowKit
set_option linter.unusedVariables false
attribute [local go_sem ↓] append_appS copy_copS clear_clrS make_mkS cell_row frozen_row loadLine storeLine heap_drew heap_drewN heap_alloc heap_past heap_setCell heap_putRow
attribute [local go_sem] rowCell_some rowFrozen_some rowHas_some rowIn_some rowPart_full rowPart_lit rowPut_full rowPut_lit rowSet_some size_putRow vs_size vs_one wideLine run_loadS run_storeS run_appS run_copS run_clrS run_mkS loadW_at storeW_at fit_all one_int one_bool one_pointer one_slice allOne_list putRow_new ne_size1 ne_size2 ne_size3 ne_size4 zero8_length lines_nil
attribute [local simp ↓] heap_drew heap_drewN heap_alloc heap_past heap_setCell heap_putRow
attribute [local simp] rowCell_some rowFrozen_some rowHas_some rowIn_some rowPart_full rowPart_lit rowPut_full rowPut_lit rowSet_some size_putRow vs_size fit_all putRow_new ne_size1 ne_size2 ne_size3 ne_size4 zero8_length


theorem line_eq (a b : List Int) (ha : a.length = 8) (hb : b.length = 8) (w : World) : (Op.equalIn 10000 34 (.agg (vs a)) (.agg (vs b))).run Try.prog w = .ok (a == b) w := by
  obtain ⟨i0, hi0⟩ : ∃ i, Try.prog.info? 32 = some i := Option.isSome_iff_exists.1 (by kernel_rfl)
  exact eq_ints_array w (k := .u64) Try.underlying34 hi0 Try.underlying32 (by kernel_rfl) a b ha hb
attribute [local go_sem] line_eq lit8
attribute [local go_sem ↓] vs_get

theorem lines_same (b o b' o' n c c' : Nat) (xs : List Int) (w : World) (h1 : Sl w 8 (some ⟨b, o, none⟩) n (xs.map (Value.int .u64))) (h2 : Sl w 8 (some ⟨b', o', none⟩) n (xs.map (Value.int .u64))) (hn : n ≤ 100000) :
    Calls Try.prog 19 #[.slice (some ⟨b, o, none⟩) n c, .slice (some ⟨b', o', none⟩) n c'] w fun e w' => e = .returned (.bool true) ∧ Chg [] w w' := by
  have H1 := Lib.hid h1
  have H2 := Lib.hid h2
  clear h1 h2
  go_enter Try.func19, Try.ntmps19
  go_wp2
  go_loopw [5] (fun i wr => ∃ k : Nat, k ≤ n ∧ i = .int .i64 k ∧ Chg [] w wr) (fun i _ => n - (intOf i).toNat)
  case atStart => exact ⟨0, by omega, rfl, Chg.refl _ _⟩
  case round =>
    obtain ⟨k, hk, rfl, hc⟩ := hrel
    by_cases hlt : k < n
    · obtain ⟨cs, t, f, hb, hi, hp, hl⟩ := (H1.out.chg hc (by simp)).line hlt
      obtain ⟨cs', t', f', hb', hi', hp', hl'⟩ := (H2.out.chg hc (by simp)).line hlt
      have g1 : (k : Int) < (n : Int) := by omega
      have g0 : (0 : Int) ≤ (k : Int) := by omega
      have g2 : (n : Int) ≤ 100000 := by omega
      go_wp2
      go_region
      all_goals
        go_wp2
        go_roundw
        case rel => exact ⟨k + 1, by omega, by go_num, hc.drew⟩
        case measure => simp [intOf]; omega
    · have : k = n := by omega
      subst this
      go_wp2
      go_ret
      exact ⟨rfl, hc⟩

/-- Some bool; if it is true, that holds. -/
def SomeBool (p : Prop) (w : World) (e : Ending) (w' : World) : Prop := ∃ b : Bool, e = .returned (.bool b) ∧ w = w' ∧ (b = true → p)
theorem fair_none (A : Option Addr) (c : Nat) (w : World) : Calls Try.prog 7 #[.slice A 0 c] w (SomeBool True w) := by
  go_enter Try.func7, Try.ntmps7
  go_wp2
  go_loop [3] (fun i => i = .int .i64 0) (fun _ => 0)
  case atStart => rfl
  case round =>
    subst hrel
    go_wp2
    go_ret
    exact ⟨_, rfl, rfl, fun _ => trivial⟩
/-- Each step's image is a slice of so many lines. -/
def Imgs (c : Array Value) (o n : Nat) (m : Nat → Nat) : Prop := ∀ i, i < n → ∃ (A : Option Addr) (k : Nat), c[o + i * 11 + 10]? = some (.slice A (m i) k)
/-- None of more than a hundred. -/
def Few (n : Nat) (m : Nat → Nat) : Prop := ∀ i, i < n → m i ≤ 100
theorem fair_some (b o n c : Nat) (cs : Array Value) (m : Nat → Nat) (t : TypeId) (f : Nat × Nat) (w : World) (hb : w.heap[b]? = some (.cells cs t f)) (hi : Imgs cs o n m) (hn : n ≤ maxLen) : Calls Try.prog 7 #[.slice (some ⟨b, o, none⟩) n c] w (SomeBool (Few n m) w) := by
  have H := Lib.hid hi
  clear hi
  unfold maxLen at hn
  go_enter Try.func7, Try.ntmps7
  go_wp2
  go_loop [3] (fun i => ∃ k : Nat, k ≤ n ∧ i = .int .i64 k ∧ Few k m) (fun i => n - (intOf i).toNat)
  case atStart => exact ⟨0, by omega, rfl, fun i hi => by omega⟩
  case round =>
    obtain ⟨k, hk, rfl, hf⟩ := hrel
    have HF := Lib.hid hf
    clear hf
    by_cases hlt : k < n
    · obtain ⟨A, j, hc⟩ := H.out k hlt
      have g1 : (k : Int) < (n : Int) := by omega
      have g0 : (0 : Int) ≤ (k : Int) := by omega
      by_cases hm : m k ≤ 100
      · have t1 : decide (100 < m k) = false := by simp; omega
        go_wp2
        go_round
        case rel =>
          refine ⟨k + 1, by omega, by go_num, fun i hi => ?_⟩
          by_cases e : i = k
          · subst e; exact hm
          · exact HF.out i (by omega)
        case measure => simp [intOf]; omega
      · have t1 : decide (100 < m k) = true := by simp; omega
        go_wp2
        go_ret
        exact ⟨_, rfl, rfl, fun h => by cases h⟩
    · have : k = n := by omega
      subst this
      go_wp2
      go_ret
      exact ⟨_, rfl, rfl, fun _ => HF.out⟩

/-- The lines behind the awakening. -/
def woken : List Int := List.replicate 16 0 ++ [8] ++ List.replicate 15 0
theorem woken_eq : forget (lnPut (lnPut (List.replicate (4 * 8) 0) 1 [7, 0, 0, 0, 0, 0, 0, 0]) 2 [8, 0, 0, 0, 0, 0, 0, 0]) 2 = woken := by decide
theorem woken2 : ln woken 2 = [8, 0, 0, 0, 0, 0, 0, 0] := by decide
theorem woken1 : ln woken 1 = [0, 0, 0, 0, 0, 0, 0, 0] := by decide
theorem wakes_true (w : World) : Calls Try.prog 8 #[] w fun e w' => e = .returned (.bool true) ∧ Chg [] w w' := by
  go_enter Try.func8, Try.ntmps8
  go_wp2_with fail
  refine (new_ok 4 2 w (by omega) (by omega) (by omega) (by omega)).mono ?_
  rintro e w1 ⟨rfl, c1, d1, z1⟩
  have D1 := Lib.hid d1
  have C1 := Lib.hid c1
  have Z1 := Lib.hid z1
  clear d1 c1 z1
  go_wp2_with fail
  refine (write_ok _ _ 4 2 1 [7, 0, 0, 0, 0, 0, 0, 0] _ _ D1.out (by omega) rfl).mono ?_
  rintro e w2 ⟨rfl, c2, d2⟩
  have D2 := Lib.hid d2
  have C2 := Lib.hid c2
  clear d2 c2
  go_wp2_with fail
  refine (write_ok _ _ 4 2 2 [8, 0, 0, 0, 0, 0, 0, 0] _ _ D2.out (by omega) rfl).mono ?_
  rintro e w3 ⟨rfl, c3, d3⟩
  have D3 := Lib.hid d3
  have C3 := Lib.hid c3
  clear d3 c3
  go_wp2_with fail
  refine (fail_ok _ _ 4 2 _ _ D3.out).mono ?_
  rintro e w4 ⟨rfl, c4, d4⟩
  rw [woken_eq] at d4
  have D4 := Lib.hid d4
  have C4 := Lib.hid c4
  clear d4 c4
  go_wp2_with fail
  refine (read_ok _ _ 4 2 2 woken _ D4.out (by omega)).mono ?_
  rintro e w5 ⟨rfl, c5, d5⟩
  have D5 := Lib.hid (d5.keep ((Chg.refl [] w5).alloc (.cells (vs [8, 0, 0, 0, 0, 0, 0, 0]) 34)) (by simp) (by simp))
  have C5 := Lib.hid c5
  rw [woken2]
  clear d5 c5
  go_wp2_with fail
  refine (image_ok _ _ 4 2 woken _ D5.out).mono ?_
  rintro e w6 ⟨g, cap, r, rfl, h1, h2, h3, h4⟩
  have hr5 := h4.block w5.heap.size (by simp) (by simp)
  have hin1 : rowIn (some (.cells (bk woken r) 34 (0, 0))) 8 8 = true := rowIn_bk (i := 1) (by decide) r _ _
  have hp1 : rowPart (some (.cells (bk woken r) 34 (0, 0))) 8 8 = vs [0, 0, 0, 0, 0, 0, 0, 0] := by rw [← woken1]; exact rowPart_bk (i := 1) (by decide) r _ _
  have hc2 : (bk woken r)[16]? = some (.int .u64 8) := by simp [bk, woken]
  have H2 := Lib.hid h2
  have H4 := Lib.hid h4
  clear h2 h4 h3
  go_wp2_with fail
  go_ret
  refine ⟨rfl, ?_⟩
  have e1 := Z1.out
  have q1 := C1.out.trans' C2.out (by simp)
  have q2 := q1.trans' C3.out (by simp)
  have q3 := q2.trans' C4.out (by simp)
  have q4 := q3.trans' C5.out (by simp)
  exact (q4.alloc _).trans H4.out
end Go.Proofs.Ytdeloippchnogaa
