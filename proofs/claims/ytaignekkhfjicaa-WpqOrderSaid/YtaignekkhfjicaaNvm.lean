/- What the calls of package nvm return, and what they leave: walked. No condition. -/
import Derived.Test.YtaignekkhfjicaaMem
import Derived.Test.YtaignekkhfjicaaChecked
import Derived.Laws.LoneSync
import Derived.Lib.SliceRun
import Derived.Deep.RegionHeld3
import Derived.Deep.QuietTactic
import Derived.BigQuiet
import Derived.Deep.RegionWith
namespace Go.Proofs.Ytaignekkhfjicaa
open Go.RowKit
set_option linter.unusedVariables false
theorem wideLine : Wide Try.prog 40 8 := ⟨⟨_, Try.underlying40, by rfl⟩, by kernel_rfl⟩
theorem loadLine (x : Value) : Instr.loadAt 40 x = loadS 40 8 x := rfl
theorem storeLine (x y : Value) : Instr.storeAt 40 x y = storeS 40 8 x y := rfl
attribute [local go_sem ↓] append_appS copy_copS clear_clrS make_mkS cell_row frozen_row loadLine storeLine heap_drew heap_drewN heap_alloc heap_past heap_setCell heap_putRow
attribute [local go_sem] rowCell_some rowFrozen_some rowHas_some rowIn_some rowPart_full rowPart_lit rowPut_full rowPut_lit rowSet_some size_putRow vs_size vs_one wideLine run_loadS run_storeS run_appS run_copS run_clrS run_mkS loadW_at storeW_at fit_all one_int one_bool one_pointer one_slice allOne_list putRow_new ne_size1 ne_size2 ne_size3 ne_size4
attribute [local simp ↓] heap_drew heap_drewN heap_alloc heap_past heap_setCell heap_putRow
attribute [local simp] rowCell_some rowFrozen_some rowHas_some rowIn_some rowPart_full rowPart_lit rowPut_full rowPut_lit rowSet_some size_putRow vs_size fit_all putRow_new ne_size1 ne_size2 ne_size3 ne_size4

/-! ### The device -/
def devCells (b n v r wr : Nat) : Array Value := #[.slice (some ⟨b, 0, none⟩) n n, .int .i64 v, .int .u64 r, .int .u64 wr]
/-- The device at g has n lines, whose numbers are xs, in block b; v of them forget. -/
def Dev (w : World) (g b n v : Nat) (xs : List Int) : Prop :=
  (∃ r wr : Int, w.heap[g]? = some (.cells #[.slice (some ⟨b, 0, none⟩) n n, .int .i64 v, .int .u64 r, .int .u64 wr] 77 (0, 0))) ∧
  w.heap[b]? = some (.cells (bk xs []) 40 (0, 0)) ∧ xs.length = n * 8 ∧ 2 ≤ n ∧ n ≤ 64 ∧ 1 ≤ v ∧ v < n ∧ g ≠ b
theorem Dev.keep {w w' : World} {g b n v : Nat} {xs : List Int} {l : List Nat} (h : Dev w g b n v xs) (hc : Chg l w w') (hg : g ∉ l) (hb : b ∉ l) : Dev w' g b n v xs := by
  obtain ⟨⟨r, wr, h1⟩, h2, h3⟩ := h
  exact ⟨⟨r, wr, hc.keep h1 hg⟩, hc.keep h2 hb, h3⟩

theorem within_yes (n a b : Int) (w : World) (h0 : a ≤ n) (h1 : n ≤ b) : Calls Try.prog 33 #[.int .i64 n, .int .i64 a, .int .i64 b] w fun e w' => e = .returned (.bool true) ∧ w = w' := by
  go_enter Try.func33, Try.ntmps33
  go_wp2
  go_ret
  exact ⟨rfl, rfl⟩
theorem within_no (n a b : Int) (w : World) (h0 : ¬ (a ≤ n ∧ n ≤ b)) : Calls Try.prog 33 #[.int .i64 n, .int .i64 a, .int .i64 b] w fun e w' => e = .returned (.bool false) ∧ w = w' := by
  by_cases h : a ≤ n
  · have h7 : decide (n ≤ b) = false := by simp; omega
    clear h0
    go_enter Try.func33, Try.ntmps33
    go_wp2
    go_ret
    exact ⟨rfl, rfl⟩
  · have h7 : decide (a ≤ n) = false := by simp; omega
    clear h0
    go_enter Try.func33, Try.ntmps33
    go_wp2
    go_ret
    exact ⟨rfl, rfl⟩

theorem place_nil (i : Int) (w : World) : Calls Try.prog 40 #[.pointer none, .int .i64 i] w fun e w' => e = .returned (.int .i64 1) ∧ w = w' := by
  go_enter Try.func40, Try.ntmps40
  go_wp2
  go_ret
  exact ⟨rfl, rfl⟩
theorem place_ok (g b n v : Nat) (i : Int) (xs : List Int) (w : World) (hd : Dev w g b n v xs) (h0 : 0 ≤ i) (h1 : i < n) :
    Calls Try.prog 40 #[.pointer (some ⟨g, 0, none⟩), .int .i64 i] w fun e w' => e = .returned (.int .i64 0) ∧ w = w' := by
  obtain ⟨⟨r, wr, hg⟩, _, _, hn2, hn, _⟩ := hd
  go_enter Try.func40, Try.ntmps40
  go_wp2_with (go_at_call 33; refine (within_yes _ _ _ _ (by omega) (by omega)).mono ?_; rintro e w' ⟨rfl, rfl⟩)
  go_ret
  exact ⟨rfl, rfl⟩
theorem place_out (g b n v : Nat) (i : Int) (xs : List Int) (w : World) (hd : Dev w g b n v xs) (h0 : ¬ (0 ≤ i ∧ i < n)) :
    Calls Try.prog 40 #[.pointer (some ⟨g, 0, none⟩), .int .i64 i] w fun e w' => e = .returned (.int .i64 12) ∧ w = w' := by
  obtain ⟨⟨r, wr, hg⟩, _, _, hn2, hn, _⟩ := hd
  have H := Lib.hid h0
  clear h0
  go_enter Try.func40, Try.ntmps40
  go_wp2_with (go_at_call 33; refine (within_no _ _ _ _ (by have := H.out; omega)).mono ?_; rintro e w' ⟨rfl, rfl⟩)
  go_ret
  exact ⟨rfl, rfl⟩

theorem add_any (g o : Nat) (x : Int) (w : World) (c : Array Value) (T : TypeId) (hg : w.heap[g]? = some (.cells c T (0, 0))) (hc : c[o]? = some (.int .u64 x)) :
    Calls Try.prog 41 #[.pointer (some ⟨g, o, none⟩), .int .u64 1] w fun e w' => e = .returned (.int .u64 (IntKind.u64.wrap (x + 1))) ∧ w' = w.setCell ⟨g, o, none⟩ (.int .u64 (IntKind.u64.wrap (x + 1))) := by
  have hadd := run_call_add (P := Try.prog) Try.func43 (by kernel_rfl) (by kernel_rfl) (by kernel_rfl) .u64 (by kernel_rfl) (a := ⟨g, o, none⟩) (x := x) (y := 1) (s := IntKind.u64.wrap (x + 1)) (w := w) (by rw [cell_row, hg, rowCell_some, hc]) (by rw [frozen_row, hg, rowFrozen_some]) (by simp [Op.intArith])
  clear hg hc
  go_enter Try.func41, Try.ntmps41
  go_wp2
  go_ret
  exact ⟨rfl, rfl⟩


/-- Two results, the first one a line in memory. -/
theorem results_line2 {fn : Func} {p t : Tmp} (h : fn.results = #[.cell p 40, .tmp t]) (tmps : Array Value) (w : World) (b : Nat) (l : List Int) (fr : Nat × Nat)
    (hp : tmps.getD p undef = .pointer (some ⟨b, 0, none⟩)) (hb : w.heap[b]? = some (.cells (vs l) 40 fr)) (hl : l.length = 8) (x : Value) (hx : tmps.getD t undef = x) :
    (results fn tmps).run Try.prog w = .ok (.tuple #[.agg (vs l), x]) w := by
  subst hx
  have hp' : tmps[p]?.getD undef = .pointer (some ⟨b, 0, none⟩) := by simpa using hp
  have := run_loadVar_row (P := Try.prog) w b 40 40 (vs l) fr _ hb Try.underlying40 rfl (by rw [vs_size, hl]; kernel_rfl)
  simp [results, h, hp', asAddr, this]
/-- A line of words 0. -/
def zero8 : List Int := [0, 0, 0, 0, 0, 0, 0, 0]

theorem zero8_length : zero8.length = 8 := rfl
attribute [local go_sem] zero8_length
attribute [local simp] zero8_length

theorem read_nil (i : Int) (w : World) : Calls Try.prog 32 #[.pointer none, .int .i64 i] w fun e w' => e = .returned (.tuple #[.agg (vs zero8), .int .i64 1]) ∧ Chg [] w w' := by
  go_enter Try.func32, Try.ntmps32
  go_wp2_with (go_at_call 40; refine (place_nil _ _).mono ?_; rintro e w' ⟨rfl, rfl⟩)
  refine bodyPost_ret (v := .tuple #[.agg (vs zero8), .int .i64 1]) ?_ (by rfl) ?_
  · exact results_line2 (by rfl) _ _ w.heap.size zero8 (0, 0) (by rfl) (by simp; try rfl) (by rfl) _ (by rfl)
  exact ⟨rfl, (Chg.refl _ _).alloc _⟩
theorem read_out (g b n v : Nat) (i : Int) (xs : List Int) (w : World) (hd : Dev w g b n v xs) (h0 : ¬ (0 ≤ i ∧ i < n)) :
    Calls Try.prog 32 #[.pointer (some ⟨g, 0, none⟩), .int .i64 i] w fun e w' => e = .returned (.tuple #[.agg (vs zero8), .int .i64 12]) ∧ Chg [] w w' := by
  have hd' := Lib.hid (hd.keep ((Chg.refl [] w).alloc (.cells (vs zero8) 40)) (by simp) (by simp))
  have H := Lib.hid h0
  clear h0 hd
  go_enter Try.func32, Try.ntmps32
  go_wp2_with (go_at_call 40; refine (place_out g b n v _ xs _ hd'.out H.out).mono ?_; rintro e w' ⟨rfl, rfl⟩)
  refine bodyPost_ret (v := .tuple #[.agg (vs zero8), .int .i64 12]) ?_ (by rfl) ?_
  · exact results_line2 (by rfl) _ _ w.heap.size zero8 (0, 0) (by rfl) (by simp; try rfl) (by rfl) _ (by rfl)
  exact ⟨rfl, (Chg.refl _ _).alloc _⟩
theorem read_ok (g b n v : Nat) (i : Nat) (xs : List Int) (w : World) (hd : Dev w g b n v xs) (h1 : i < n) :
    Calls Try.prog 32 #[.pointer (some ⟨g, 0, none⟩), .int .i64 i] w fun e w' => e = .returned (.tuple #[.agg (vs (ln xs i)), .int .i64 0]) ∧ Chg [g] w w' ∧ Dev w' g b n v xs := by
  have hd' := Lib.hid (hd.keep ((Chg.refl [] w).alloc (.cells (vs zero8) 40)) (by simp) (by simp))
  obtain ⟨⟨r, wr, hg⟩, hb, hx, hn2, hn, hv, hvn, hgb⟩ := hd
  have hf : Fit (i * 8) 8 xs.length := by rw [hx]; unfold Fit; omega
  have H := Lib.hid hx
  have hbg : b ≠ g := fun e => hgb e.symm
  have hgl := old hg
  have hbl := old hb
  have hl := ln_length xs i hf
  have hi : (i : Int) < (n : Int) := by omega
  have hi0 : (0 : Int) ≤ (i : Int) := by omega
  have h64 : (n : Int) ≤ 64 := by omega
  have rp := rowPart_bk hf [] 40 (0, 0)
  have ri := rowIn_bk hf [] 40 (0, 0)
  clear hx hf
  go_enter Try.func32, Try.ntmps32
  go_wp2_with (first
    | (go_at_call 40; refine (place_ok g b n v _ xs _ hd'.out (by omega) (by omega)).mono ?_; rintro e w' ⟨rfl, rfl⟩)
    | (go_at_call 41; refine (add_any g 2 r _ #[.slice (some ⟨b, 0, none⟩) n n, .int .i64 v, .int .u64 r, .int .u64 wr] 77 (by rw [heap_alloc, hg]; rfl) rfl).mono ?_; rintro e w' ⟨rfl, rfl⟩))
  refine bodyPost_ret (v := .tuple #[.agg (vs (ln xs i)), .int .i64 0]) ?_ (by rfl) ?_
  · exact results_line2 (by rfl) _ _ w.heap.size (ln xs i) (0, 0) (by rfl) (by simp [*]) hl _ (by rfl)
  refine ⟨rfl, ?_, ?_⟩
  · exact (((Chg.refl _ _).alloc _).setCell _ _ _ (.inl (by simp))).putRow _ _ _ (.inr (by simp))
  · exact ⟨⟨IntKind.u64.wrap (r + 1), wr, by simp [*]⟩, by simp [*], H.out, hn2, hn, hv, hvn, hgb⟩

theorem write_nil (i : Int) (l : List Int) (w : World) (hl : l.length = 8) : Calls Try.prog 21 #[.pointer none, .int .i64 i, .agg (vs l)] w fun e w' => e = .returned (.int .i64 1) ∧ Chg [] w w' := by
  clear hl
  go_enter Try.func21, Try.ntmps21
  go_wp2_with (go_at_call 40; refine (place_nil _ _).mono ?_; rintro e w' ⟨rfl, rfl⟩)
  go_ret
  exact ⟨rfl, (Chg.refl _ _).alloc _⟩
theorem write_out (g b n v : Nat) (i : Int) (l xs : List Int) (w : World) (hd : Dev w g b n v xs) (h0 : ¬ (0 ≤ i ∧ i < n)) :
    Calls Try.prog 21 #[.pointer (some ⟨g, 0, none⟩), .int .i64 i, .agg (vs l)] w fun e w' => e = .returned (.int .i64 12) ∧ Chg [] w w' := by
  have hd' := Lib.hid (hd.keep ((Chg.refl [] w).alloc (.cells (vs l) 40)) (by simp) (by simp))
  have H := Lib.hid h0
  clear h0 hd
  go_enter Try.func21, Try.ntmps21
  go_wp2_with (go_at_call 40; refine (place_out g b n v _ xs _ hd'.out H.out).mono ?_; rintro e w' ⟨rfl, rfl⟩)
  go_ret
  exact ⟨rfl, (Chg.refl _ _).alloc _⟩
theorem write_ok (g b n v : Nat) (i : Nat) (l xs : List Int) (w : World) (hd : Dev w g b n v xs) (h1 : i < n) (hl : l.length = 8) :
    Calls Try.prog 21 #[.pointer (some ⟨g, 0, none⟩), .int .i64 i, .agg (vs l)] w fun e w' => e = .returned (.int .i64 0) ∧ Chg [g, b] w w' ∧ Dev w' g b n v (lnPut xs i l) := by
  have hd' := Lib.hid (hd.keep ((Chg.refl [] w).alloc (.cells (vs l) 40)) (by simp) (by simp))
  obtain ⟨⟨r, wr, hg⟩, hb, hx, hn2, hn, hv, hvn, hgb⟩ := hd
  have hf : Fit (i * 8) 8 xs.length := by rw [hx]; unfold Fit; omega
  have H := Lib.hid hx
  have HL := Lib.hid (lnPut_length xs i l hf hl)
  have hbg : b ≠ g := fun e => hgb e.symm
  have hgl := old hg
  have hbl := old hb
  have hi : (i : Int) < (n : Int) := by omega
  have hi0 : (0 : Int) ≤ (i : Int) := by omega
  have h64 : (n : Int) ≤ 64 := by omega
  have rp := rowPut_bk (xs := xs) (l := l) (i := i) (by rw [hl]; exact hf) [] 40 (0, 0)
  have ri := rowHas_bk (xs := xs) (i := i) hf [] 40
  clear hx hf
  go_enter Try.func21, Try.ntmps21
  go_wp2_with (first
    | (go_at_call 40; refine (place_ok g b n v _ xs _ hd'.out (by omega) (by omega)).mono ?_; rintro e w' ⟨rfl, rfl⟩)
    | (go_at_call 41; refine (add_any g 3 wr _ #[.slice (some ⟨b, 0, none⟩) n n, .int .i64 v, .int .u64 r, .int .u64 wr] 77 (by rw [heap_alloc, hg]; rfl) rfl).mono ?_; rintro e w' ⟨rfl, rfl⟩))
  go_region
  all_goals
    go_wp2
    go_ret
    refine ⟨rfl, ?_, ?_⟩
    · exact ((((Chg.refl _ _).alloc _).setCell _ _ _ (.inl (by simp))).drew).putRow _ _ _ (.inl (by simp))
    · exact ⟨⟨r, IntKind.u64.wrap (wr + 1), by simp [*]⟩, by simp [*], HL.out.trans H.out, hn2, hn, hv, hvn, hgb⟩

/-! ### Images -/
theorem line_info : (Try.prog.info? 40).map (fun i => (i.zero, i.size, i.bytes)) = some (some (.agg (vs zero8)), 8, 64) := by kernel_rfl
theorem lines_nil (w : World) (a : Option Addr) (n c n' c' : Nat) : (binOp .eql 59 (.slice a n c) (.slice none n' c')).run Try.prog w = .ok (.bool a.isNone) w := Lib.run_eql_slice_nil w _ _ a n c n' c' Try.underlying59
attribute [local go_sem] lines_nil
theorem clone_ok (A : Option Addr) (n c : Nat) (xs : List Value) (w : World) (h : Sl w 8 A n xs) (h0 : 0 < n) (hn : n * 64 ≤ 140737488355328) :
    Calls Try.prog 42 #[.slice A n c] w fun e w' => ∃ g cap r, e = .returned (.slice (some ⟨g, 0, none⟩) n cap) ∧ w'.heap[g]? = some (.cells (xs ++ r).toArray 40 (0, 0)) ∧ w.heap.size ≤ g ∧ n ≤ cap ∧ Chg [] w w' := by
  obtain ⟨i0, hi0, hz0, hz1, hz2⟩ := info_parts line_info
  obtain ⟨b, o, rfl⟩ := h.addr h0
  have hcl := run_clone (P := Try.prog) (t := 59) (ty := 59) Try.underlying59 hi0 hz0 (w.alloc (.cells #[] 40)) ⟨w.heap.size, 0, none⟩ (some ⟨b, o, none⟩) n c xs (by rw [hz1]; exact h.chg ((Chg.refl [] w).alloc _) (by simp)) h0 (by simp only [maxLen]; omega) (by rw [hz2]; exact hn)
  have hge := grownCap_ge (w.alloc (.cells #[] 40)) n 0 40
  generalize grownCap (w.alloc (.cells #[] 40)) n 0 40 = cap at hcl hge
  generalize (Builtin.zeroCells (Value.agg (vs zero8)).cells (cap - n)).toList = r at hcl
  clear h h0 hn hz0 hz1 hz2 hi0
  go_enter Try.func42, Try.ntmps42
  go_wp2
  go_ret
  exact ⟨w.heap.size + 1, cap, r, rfl, by simp, by omega, hge, (((Chg.refl _ _).alloc _).drew).alloc _⟩

theorem Dev.sl {w : World} {g b n v : Nat} {xs : List Int} (h : Dev w g b n v xs) : Sl w 8 (some ⟨b, 0, none⟩) n (xs.map (Value.int .u64)) := Sl.of_bk h.2.1 h.2.2.1
theorem image_nil (w : World) : Calls Try.prog 30 #[.pointer none] w fun e w' => e = .returned (.slice none 0 0) ∧ w = w' := by
  go_enter Try.func30, Try.ntmps30
  go_wp2
  go_ret
  exact ⟨rfl, rfl⟩
/-- A slice of lines of its own, at the head of a block. -/
def OwnLines (w0 : World) (n : Nat) (xs : List Int) (e : Ending) (w' : World) : Prop :=
  ∃ g cap r, e = .returned (.slice (some ⟨g, 0, none⟩) n cap) ∧ w'.heap[g]? = some (.cells (bk xs r) 40 (0, 0)) ∧ w0.heap.size ≤ g ∧ n ≤ cap ∧ Chg [] w0 w'
theorem image_ok (g b n v : Nat) (xs : List Int) (w : World) (hd : Dev w g b n v xs) : Calls Try.prog 30 #[.pointer (some ⟨g, 0, none⟩)] w (OwnLines w n xs) := by
  have hs := Lib.hid hd.sl
  obtain ⟨⟨r, wr, hg⟩, hb, hx, hn2, hn, hv, hvn, hgb⟩ := hd
  clear hb hx
  go_enter Try.func30, Try.ntmps30
  go_wp2_with (go_at_call 42; refine (clone_ok _ n _ (xs.map (Value.int .u64)) _ hs.out (by omega) (by omega)).mono ?_; rintro e w' ⟨g', cap, r', rfl, h1, h2, h3, h4⟩)
  go_ret
  exact ⟨g', cap, r', rfl, h1, h2, h3, h4⟩

theorem fail_nil (w : World) : Calls Try.prog 38 #[.pointer none] w fun e w' => e = .returned (.tuple #[]) ∧ w = w' := by
  go_enter Try.func38, Try.ntmps38
  go_wp2
  refine bodyPost_ret (results_none rfl _ _ _) rfl ?_
  exact ⟨rfl, rfl⟩
theorem fail_ok (g b n v : Nat) (xs : List Int) (w : World) (hd : Dev w g b n v xs) :
    Calls Try.prog 38 #[.pointer (some ⟨g, 0, none⟩)] w fun e w' => e = .returned (.tuple #[]) ∧ Chg [b] w w' ∧ Dev w' g b n v (forget xs v) := by
  obtain ⟨⟨r, wr, hg⟩, hb, hx, hn2, hn, hv, hvn, hgb⟩ := hd
  have hzv : ∀ w, (zeroValue 40).run Try.prog w = .ok (.agg (vs zero8)) w := fun w => by
    obtain ⟨i0, hi0, hz0, hz1, hz2⟩ := info_parts line_info
    simp [zeroValue, typeInfo, hi0, hz0]
  have hfit : rowHas (w.heap[b]?) 0 (v * 8) = true := by rw [hb, rowHas_some, bk_size, hx]; simp [Fit]; omega
  have hcl := run_clear_row (P := Try.prog) (t := 59) (ty := 0) Try.underlying59 hzv (by intro v hv; simp [Value.cells, vs, zero8] at hv; rw [hv]; rfl) w.drew b v n (by omega) hfit
  rw [show (Value.agg (vs zero8)).cells = vs [0, 0, 0, 0, 0, 0, 0, 0] from rfl, zeros_made] at hcl
  have HC : Chg [b] w (putRow w.drew b 0 (vs (List.replicate (v * 8) 0))) := ((Chg.refl _ _).drew).putRow _ _ _ (.inl (by simp))
  have HD : Dev (putRow w.drew b 0 (vs (List.replicate (v * 8) 0))) g b n v (forget xs v) := by
    refine ⟨⟨r, wr, HC.keep hg (by simpa using hgb)⟩, ?_, by rw [forget_length _ _ (by omega), hx], hn2, hn, hv, hvn, hgb⟩
    rw [heap_putRow _ _ _ _ _ (by rw [vs_size, List.length_replicate]; exact hfit), if_pos rfl, heap_drew, hb, rowPut_forget _ _ (by omega)]
  generalize putRow w.drew b 0 (vs (List.replicate (v * 8) 0)) = w1 at hcl HC HD
  have hvn' : (v : Int) ≤ (n : Int) := by omega
  have hv0 : (0 : Int) ≤ (v : Int) := by omega
  clear hx hb hzv hfit
  go_enter Try.func38, Try.ntmps38
  go_wp2
  go_region
  all_goals
    go_wp2
    go_end0
    exact ⟨rfl, HC, HD⟩
end Go.Proofs.Ytaignekkhfjicaa
