/- What the document's own device returns, and leaves; two lists of lines compared; a device made: walked. No condition. -/
import Derived.Test.YtaignekkhfjicaaNvm
namespace Go.Proofs.Ytaignekkhfjicaa
open Go.RowKit
set_option linter.unusedVariables false
attribute [local go_sem ↓] append_appS copy_copS clear_clrS make_mkS cell_row frozen_row loadLine storeLine heap_drew heap_drewN heap_alloc heap_past heap_setCell heap_putRow
attribute [local go_sem] rowCell_some rowFrozen_some rowHas_some rowIn_some rowPart_full rowPart_lit rowPut_full rowPut_lit rowSet_some size_putRow vs_size vs_one wideLine run_loadS run_storeS run_appS run_copS run_clrS run_mkS loadW_at storeW_at fit_all one_int one_bool one_pointer one_slice allOne_list putRow_new ne_size1 ne_size2 ne_size3 ne_size4 zero8_length lines_nil
attribute [local simp ↓] heap_drew heap_drewN heap_alloc heap_past heap_setCell heap_putRow
attribute [local simp] rowCell_some rowFrozen_some rowHas_some rowIn_some rowPart_full rowPart_lit rowPut_full rowPut_lit rowSet_some size_putRow vs_size fit_all putRow_new ne_size1 ne_size2 ne_size3 ne_size4 zero8_length

/-- Lines made. -/
theorem run_make_lines (w : World) (n : Nat) (hn : n ≤ 64) : mkR Try.prog 59 (.int .i64 n) (.int .i64 n) w = .ok (.slice (some ⟨w.heap.size, 0, none⟩) n n) (w.alloc (.cells (bk (List.replicate (n * 8) 0) []) 40)) := by
  obtain ⟨i0, hi0, hz0, hz1, hz2⟩ := info_parts line_info
  have := run_make (P := Try.prog) w 59 40 i0 _ Try.underlying59 hi0 hz0 .i64 .i64 n n (by omega) (by omega) (by rw [hz2]; omega) (by omega)
  simp only [Int.toNat_natCast, hz1] at this
  rw [← made_made]
  exact this

/-- A clone made where it is asked for. -/
theorem clone_run (w : World) (A : Option Addr) (n c : Nat) (xs : List Int) (h : Sl w 8 A n (xs.map (Value.int .u64))) (h0 : 0 < n) (hn : n * 64 ≤ 140737488355328) :
    ∃ (cap : Nat) (r : List Value), n ≤ cap ∧ appR Try.prog 59 59 #[.slice (some ⟨w.heap.size, 0, none⟩) 0 0, .slice A n c] (w.alloc (.cells #[] 40)) =
      .ok (.slice (some ⟨w.heap.size + 1, 0, none⟩) n cap) ((w.alloc (.cells #[] 40)).drew.alloc (.cells (bk xs r) 40)) := by
  obtain ⟨i0, hi0, hz0, hz1, hz2⟩ := info_parts line_info
  have hcl := run_clone (P := Try.prog) (t := 59) (ty := 59) Try.underlying59 hi0 hz0 (w.alloc (.cells #[] 40)) ⟨w.heap.size, 0, none⟩ A n c (xs.map (Value.int .u64)) (by rw [hz1]; exact h.chg ((Chg.refl [] w).alloc _) (by simp)) h0 (by simp only [maxLen]; omega) (by rw [hz2]; exact hn)
  refine ⟨_, (Builtin.zeroCells (Value.agg (vs zero8)).cells (grownCap (w.alloc (.cells #[] 40)) n 0 40 - n)).toList, grownCap_ge (w.alloc (.cells #[] 40)) n 0 40, ?_⟩
  rw [hcl, World.size_alloc]
  rfl
theorem clone_run0 (w : World) (a : Addr) (A : Option Addr) (c : Nat) : appR Try.prog 59 59 #[.slice (some a) 0 0, .slice A 0 c] w = .ok (.slice (some a) 0 0) w := by
  obtain ⟨i0, hi0, hz0, hz1, hz2⟩ := info_parts line_info
  exact run_clone0 Try.underlying59 hi0 w a A c

theorem clone_any (w : World) (A : Option Addr) (n c : Nat) (xs : List Int) (h : Sl w 8 A n (xs.map (Value.int .u64))) (hn : n * 64 ≤ 140737488355328) :
    ∃ (g cap : Nat) (r : List Value) (w' : World), appR Try.prog 59 59 #[.slice (some ⟨w.heap.size, 0, none⟩) 0 0, .slice A n c] (w.alloc (.cells #[] 40)) = .ok (.slice (some ⟨g, 0, none⟩) n cap) w' ∧
      w'.heap[g]? = some (.cells (bk xs r) 40 (0, 0)) ∧ w.heap.size ≤ g ∧ Chg [] w w' := by
  rcases Nat.eq_zero_or_pos n with h0 | h0
  · subst h0
    have hx : xs = [] := List.eq_nil_of_length_eq_zero (by simpa using h.1)
    subst hx
    exact ⟨w.heap.size, 0, [], _, clone_run0 _ _ A c, by simp [bk], Nat.le_refl _, (Chg.refl _ _).alloc _⟩
  · obtain ⟨cap, r, _, hr⟩ := clone_run w A n c xs h h0 hn
    exact ⟨w.heap.size + 1, cap, r, _, hr, by simp, by omega, ((Chg.refl _ _).alloc _).drew.alloc _⟩

theorem new_bad (n v : Int) (w : World) (h : ¬ (2 ≤ n ∧ n ≤ 64 ∧ 1 ≤ v ∧ v < n)) : Calls Try.prog 9 #[.int .i64 n, .int .i64 v] w fun e w' => e = .returned (.tuple #[.pointer none, .int .i64 1]) ∧ w = w' := by
  by_cases h1 : 2 ≤ n ∧ n ≤ 64
  · have h2 := Lib.hid (show ¬ (1 ≤ v ∧ v ≤ n - 1) by omega)
    obtain ⟨h3, h4⟩ := h1
    clear h
    go_enter Try.func9, Try.ntmps9
    go_wp2_with (first
      | (go_at_call_of 33 (Value.int .i64 2); refine (within_yes _ _ _ _ h3 h4).mono ?_; rintro e w' ⟨rfl, rfl⟩)
      | (go_at_call 33; refine (within_no _ _ _ _ h2.out).mono ?_; rintro e w' ⟨rfl, rfl⟩))
    go_ret2
    exact ⟨rfl, rfl⟩
  · have h2 := Lib.hid h1
    clear h h1
    go_enter Try.func9, Try.ntmps9
    go_wp2_with (go_at_call 33; refine (within_no _ _ _ _ h2.out).mono ?_; rintro e w' ⟨rfl, rfl⟩)
    go_ret2
    exact ⟨rfl, rfl⟩
/-- A device that was made. -/
def MadeDev (w0 : World) (n v : Nat) (e : Ending) (w' : World) : Prop :=
  e = .returned (.tuple #[.pointer (some ⟨w0.heap.size + 1, 0, none⟩), .int .i64 0]) ∧ Chg [] w0 w' ∧ Dev w' (w0.heap.size + 1) w0.heap.size n v (List.replicate (n * 8) 0) ∧ w'.heap.size = w0.heap.size + 2
theorem new_ok (n v : Nat) (w : World) (h1 : 2 ≤ n) (h2 : n ≤ 64) (h3 : 1 ≤ v) (h4 : v < n) : Calls Try.prog 9 #[.int .i64 n, .int .i64 v] w (MadeDev w n v) := by
  have hmk := run_make_lines w n h2
  have g1 : (2 : Int) ≤ (n : Int) := by omega
  have g2 : (n : Int) ≤ 64 := by omega
  go_enter Try.func9, Try.ntmps9
  go_wp2_with (go_at_call 33; refine (within_yes _ _ _ _ (by omega) (by omega)).mono ?_; rintro e w' ⟨rfl, rfl⟩)
  go_ret2
  refine ⟨rfl, ((Chg.refl _ _).alloc _).alloc _, ⟨⟨0, 0, ?_⟩, ?_, by simp, h1, h2, h3, h4, by omega⟩, by simp⟩
  · simp
  · simp

/-! ### The document's device -/
def RDev (w : World) (g b n v : Nat) (xs : List Int) : Prop :=
  (∃ cap : Nat, w.heap[g]? = some (.cells #[.slice (some ⟨b, 0, none⟩) n cap, .int .i64 v] 62 (0, 0))) ∧
  (∃ r : List Value, w.heap[b]? = some (.cells (bk xs r) 40 (0, 0))) ∧ xs.length = n * 8 ∧ 2 ≤ n ∧ n ≤ 64 ∧ 1 ≤ v ∧ v < n ∧ g ≠ b
theorem RDev.keep {w w' : World} {g b n v : Nat} {xs : List Int} {l : List Nat} (h : RDev w g b n v xs) (hc : Chg l w w') (hg : g ∉ l) (hb : b ∉ l) : RDev w' g b n v xs := by
  obtain ⟨⟨c, h1⟩, ⟨r, h2⟩, h3⟩ := h
  exact ⟨⟨c, hc.keep h1 hg⟩, ⟨r, hc.keep h2 hb⟩, h3⟩
theorem RDev.sl {w : World} {g b n v : Nat} {xs : List Int} (h : RDev w g b n v xs) : Sl w 8 (some ⟨b, 0, none⟩) n (xs.map (Value.int .u64)) := by
  obtain ⟨_, ⟨r, h2⟩, h3, _⟩ := h
  exact Sl.of_bk h2 h3
theorem rnew_bad (n v : Int) (w : World) (h : ¬ (2 ≤ n ∧ n ≤ 64 ∧ 1 ≤ v ∧ v < n)) : Calls Try.prog 10 #[.int .i64 n, .int .i64 v] w fun e w' => e = .returned (.tuple #[.pointer none, .int .i64 1]) ∧ w = w' := by
  by_cases h1 : n < 2
  · have t1 : decide (n < 2) = true := by simpa using h1
    clear h
    go_enter Try.func10, Try.ntmps10
    go_wp2
    go_ret2
    exact ⟨rfl, rfl⟩
  · by_cases h2 : 64 < n
    · have t1 : decide (n < 2) = false := by simpa using h1
      have t2 : decide (64 < n) = true := by simpa using h2
      clear h
      go_enter Try.func10, Try.ntmps10
      go_wp2
      go_ret2
      exact ⟨rfl, rfl⟩
    · by_cases h3 : v < 1
      · have t1 : decide (n < 2) = false := by simpa using h1
        have t2 : decide (64 < n) = false := by simpa using h2
        have t3 : decide (v < 1) = true := by simpa using h3
        clear h
        go_enter Try.func10, Try.ntmps10
        go_wp2
        go_ret2
        exact ⟨rfl, rfl⟩
      · have t1 : decide (n < 2) = false := by simpa using h1
        have t2 : decide (64 < n) = false := by simpa using h2
        have t3 : decide (v < 1) = false := by simpa using h3
        have t4 : decide (n ≤ v) = true := by simp; omega
        clear h
        go_enter Try.func10, Try.ntmps10
        go_wp2
        go_ret2
        exact ⟨rfl, rfl⟩
def MadeRDev (w0 : World) (n v : Nat) (e : Ending) (w' : World) : Prop :=
  e = .returned (.tuple #[.pointer (some ⟨w0.heap.size + 1, 0, none⟩), .int .i64 0]) ∧ Chg [] w0 w' ∧ RDev w' (w0.heap.size + 1) w0.heap.size n v (List.replicate (n * 8) 0) ∧ w'.heap.size = w0.heap.size + 2
theorem rnew_ok (n v : Nat) (w : World) (h1 : 2 ≤ n) (h2 : n ≤ 64) (h3 : 1 ≤ v) (h4 : v < n) : Calls Try.prog 10 #[.int .i64 n, .int .i64 v] w (MadeRDev w n v) := by
  have hmk := run_make_lines w n h2
  have t1 : decide ((n : Int) < 2) = false := by simp; omega
  have t2 : decide ((64 : Int) < n) = false := by simp; omega
  have t3 : decide ((v : Int) < 1) = false := by simp; omega
  have t4 : decide (n ≤ v) = false := by simp; omega
  have H := Lib.hid h1
  clear h1
  go_enter Try.func10, Try.ntmps10
  go_wp2
  go_ret2
  refine ⟨rfl, ((Chg.refl _ _).alloc _).alloc _, ⟨⟨n, ?_⟩, ⟨[], ?_⟩, by simp, H.out, h2, h3, h4, by omega⟩, by simp⟩
  · simp
  · simp
theorem has_yes (g b n v : Nat) (i : Int) (xs : List Int) (w : World) (hd : RDev w g b n v xs) (h0 : 0 ≤ i) (h1 : i < n) :
    Calls Try.prog 34 #[.pointer (some ⟨g, 0, none⟩), .int .i64 i] w fun e w' => e = .returned (.bool true) ∧ w = w' := by
  obtain ⟨⟨c, hg⟩, _⟩ := hd
  have t1 : decide (i < n) = true := by simpa using h1
  have t2 : decide (0 ≤ i) = true := by simpa using h0
  go_enter Try.func34, Try.ntmps34
  go_wp2
  go_ret
  exact ⟨rfl, rfl⟩
theorem has_no (g b n v : Nat) (i : Int) (xs : List Int) (w : World) (hd : RDev w g b n v xs) (h : ¬ (0 ≤ i ∧ i < n)) :
    Calls Try.prog 34 #[.pointer (some ⟨g, 0, none⟩), .int .i64 i] w fun e w' => e = .returned (.bool false) ∧ w = w' := by
  obtain ⟨⟨c, hg⟩, _⟩ := hd
  by_cases h0 : 0 ≤ i
  · have t2 : decide (0 ≤ i) = true := by simpa using h0
    have t1 : decide (i < n) = false := by simp; omega
    clear h
    go_enter Try.func34, Try.ntmps34
    go_wp2
    go_ret
    exact ⟨rfl, rfl⟩
  · have t2 : decide (0 ≤ i) = false := by simpa using h0
    clear h h0
    go_enter Try.func34, Try.ntmps34
    go_wp2
    go_ret
    exact ⟨rfl, rfl⟩
theorem rread_out (g b n v : Nat) (i : Int) (xs : List Int) (w : World) (hd : RDev w g b n v xs) (h0 : ¬ (0 ≤ i ∧ i < n)) :
    Calls Try.prog 35 #[.pointer (some ⟨g, 0, none⟩), .int .i64 i] w fun e w' => e = .returned (.tuple #[.agg (vs zero8), .int .i64 12]) ∧ Chg [] w w' := by
  have hd' := Lib.hid (hd.keep ((Chg.refl [] w).alloc (.cells (vs zero8) 40)) (by simp) (by simp))
  have H := Lib.hid h0
  clear h0 hd
  go_enter Try.func35, Try.ntmps35
  go_wp2_with (go_at_call 34; refine (has_no g b n v _ xs _ hd'.out H.out).mono ?_; rintro e w' ⟨rfl, rfl⟩)
  refine bodyPost_ret (v := .tuple #[.agg (vs zero8), .int .i64 12]) ?_ (by rfl) ?_
  · exact results_line2 (by rfl) _ _ w.heap.size zero8 (0, 0) (by rfl) (by simp; try rfl) (by rfl) _ (by rfl)
  exact ⟨rfl, (Chg.refl _ _).alloc _⟩
theorem rread_ok (g b n v : Nat) (i : Nat) (xs : List Int) (w : World) (hd : RDev w g b n v xs) (h1 : i < n) :
    Calls Try.prog 35 #[.pointer (some ⟨g, 0, none⟩), .int .i64 i] w fun e w' => e = .returned (.tuple #[.agg (vs (ln xs i)), .int .i64 0]) ∧ Chg [] w w' := by
  have hd' := Lib.hid (hd.keep ((Chg.refl [] w).alloc (.cells (vs zero8) 40)) (by simp) (by simp))
  obtain ⟨⟨c, hg⟩, ⟨r, hb⟩, hx, hn2, hn, hv, hvn, hgb⟩ := hd
  have hf : Fit (i * 8) 8 xs.length := by rw [hx]; unfold Fit; omega
  have hgl := old hg
  have hbl := old hb
  have hl := ln_length xs i hf
  have hi : (i : Int) < (n : Int) := by omega
  have hi0 : (0 : Int) ≤ (i : Int) := by omega
  have h64 : (n : Int) ≤ 64 := by omega
  have rp := rowPart_bk hf r 40 (0, 0)
  have ri := rowIn_bk hf r 40 (0, 0)
  clear hx hf
  go_enter Try.func35, Try.ntmps35
  go_wp2_with (go_at_call 34; refine (has_yes g b n v _ xs _ hd'.out hi0 hi).mono ?_; rintro e w' ⟨rfl, rfl⟩)
  refine bodyPost_ret (v := .tuple #[.agg (vs (ln xs i)), .int .i64 0]) ?_ (by rfl) ?_
  · exact results_line2 (by rfl) _ _ w.heap.size (ln xs i) (0, 0) (by rfl) (by simp [*]) hl _ (by rfl)
  exact ⟨rfl, (Chg.refl _ _).alloc _⟩
theorem rwrite_out (g b n v : Nat) (i : Int) (l xs : List Int) (w : World) (hd : RDev w g b n v xs) (h0 : ¬ (0 ≤ i ∧ i < n)) :
    Calls Try.prog 22 #[.pointer (some ⟨g, 0, none⟩), .int .i64 i, .agg (vs l)] w fun e w' => e = .returned (.int .i64 12) ∧ Chg [] w w' := by
  have hd' := Lib.hid (hd.keep ((Chg.refl [] w).alloc (.cells (vs l) 40)) (by simp) (by simp))
  have H := Lib.hid h0
  clear h0 hd
  go_enter Try.func22, Try.ntmps22
  go_wp2_with (go_at_call 34; refine (has_no g b n v _ xs _ hd'.out H.out).mono ?_; rintro e w' ⟨rfl, rfl⟩)
  go_ret
  exact ⟨rfl, (Chg.refl _ _).alloc _⟩
theorem rwrite_ok (g b n v : Nat) (i : Nat) (l xs : List Int) (w : World) (hd : RDev w g b n v xs) (h1 : i < n) (hl : l.length = 8) :
    Calls Try.prog 22 #[.pointer (some ⟨g, 0, none⟩), .int .i64 i, .agg (vs l)] w fun e w' => e = .returned (.int .i64 0) ∧ Chg [b] w w' ∧ RDev w' g b n v (lnPut xs i l) := by
  have hd' := Lib.hid (hd.keep ((Chg.refl [] w).alloc (.cells (vs l) 40)) (by simp) (by simp))
  obtain ⟨⟨c, hg⟩, ⟨r, hb⟩, hx, hn2, hn, hv, hvn, hgb⟩ := hd
  have hf : Fit (i * 8) 8 xs.length := by rw [hx]; unfold Fit; omega
  have H := Lib.hid hx
  have HL := Lib.hid (lnPut_length xs i l hf hl)
  have hbg : b ≠ g := fun e => hgb e.symm
  have hgl := old hg
  have hbl := old hb
  have hi : (i : Int) < (n : Int) := by omega
  have hi0 : (0 : Int) ≤ (i : Int) := by omega
  have h64 : (n : Int) ≤ 64 := by omega
  have rp := rowPut_bk (xs := xs) (l := l) (i := i) (by rw [hl]; exact hf) r 40 (0, 0)
  have ri := rowHas_bk (xs := xs) (i := i) hf r 40
  clear hx hf
  go_enter Try.func22, Try.ntmps22
  go_wp2_with (go_at_call 34; refine (has_yes g b n v _ xs _ hd'.out hi0 hi).mono ?_; rintro e w' ⟨rfl, rfl⟩)
  go_region
  all_goals
    go_wp2
    go_ret
    refine ⟨rfl, ?_, ?_⟩
    · exact (((Chg.refl _ _).alloc _).drew).putRow _ _ _ (.inl (by simp))
    · exact ⟨⟨c, by simp [*]⟩, ⟨r, by simp [*]⟩, HL.out.trans H.out, hn2, hn, hv, hvn, hgb⟩
theorem rfail_ok (g b n v : Nat) (xs : List Int) (w : World) (hd : RDev w g b n v xs) :
    Calls Try.prog 39 #[.pointer (some ⟨g, 0, none⟩)] w fun e w' => e = .returned (.tuple #[]) ∧ Chg [b] w w' ∧ RDev w' g b n v (forget xs v) := by
  obtain ⟨⟨cp, hg⟩, ⟨r, hb⟩, hx, hn2, hn, hv, hvn, hgb⟩ := hd
  have H := Lib.hid hx
  have HG := Lib.hid hg
  have HB := Lib.hid hb
  clear hx hg hb
  go_enter Try.func39, Try.ntmps39
  go_wp2
  go_loopw [2] (fun i wr => ∃ k : Nat, k ≤ v ∧ i = .int .i64 k ∧ Chg [b] w wr ∧ wr.heap[b]? = some (.cells (bk (forget xs k) r) 40 (0, 0))) (fun i _ => v - (intOf i).toNat)
  case atStart => exact ⟨0, by omega, rfl, Chg.refl _ _, by rw [forget_zero]; exact HB.out⟩
  case round =>
    obtain ⟨k, hk, rfl, hc, hb⟩ := hrel
    have hg := hc.keep HG.out (by simpa using hgb)
    have hbg : b ≠ g := fun e => hgb e.symm
    by_cases hlt : k < v
    · have hx := H.out
      have hf : Fit (k * 8) 8 (forget xs k).length := by rw [forget_length _ _ (by omega), hx]; unfold Fit; omega
      have hi : (k : Int) < (n : Int) := by omega
      have hi0 : (0 : Int) ≤ (k : Int) := by omega
      have h64 : (n : Int) ≤ 64 := by omega
      have rp := rowPut_bk (xs := forget xs k) (l := zero8) (i := k) hf r 40 (0, 0)
      have hs := Lib.hid (forget_succ xs k (by omega))
      have ri := rowHas_bk (xs := forget xs k) (i := k) hf r 40
      clear hx hf
      go_wp2
      go_roundw
      case rel => exact ⟨k + 1, by omega, by go_num, hc.putRow _ _ _ (.inl (by simp)), by rw [← hs.out]; simp [*]; exact rp⟩
      case measure => simp [intOf]; omega
    · have : k = v := by omega
      subst this
      go_wp2
      go_end0
      exact ⟨rfl, hc, ⟨cp, hg⟩, ⟨r, hb⟩, by rw [forget_length _ _ (by have := H.out; omega)]; exact H.out, hn2, hn, hv, hvn, hgb⟩
end Go.Proofs.Ytaignekkhfjicaa
