/- What the calls of package wpq return, and what they leave: walked. No condition. -/
import Derived.Test.YtaignekkhfjicaaWpqm
import Derived.Test.YtaignekkhfjicaaLines
namespace Go.Proofs.Ytaignekkhfjicaa
open Go.RowKit
set_option linter.unusedVariables false
theorem wideEnt : Wide Try.prog 82 9 := ⟨⟨_, Try.underlying82, by rfl⟩, by kernel_rfl⟩
theorem loadEnt (x : Value) : Instr.loadAt 82 x = loadS 82 9 x := rfl
theorem storeEnt (x y : Value) : Instr.storeAt 82 x y = storeS 82 9 x y := rfl
attribute [local go_sem ↓] append_appS copy_copS clear_clrS make_mkS cell_row frozen_row loadLine storeLine loadEnt storeEnt heap_drew heap_drewN heap_alloc heap_past heap_setCell heap_putRow vs_get entc_pos
attribute [local go_sem] rowCell_some rowFrozen_some rowHas_some rowIn_some rowPart_full rowPart_lit rowPut_full rowPut_lit rowSet_some size_putRow vs_size vs_one wideLine wideEnt run_loadS run_storeS run_appS run_copS run_clrS run_mkS loadW_at storeW_at fit_all fit_le one_int one_bool one_pointer one_slice allOne_list putRow_new ne_size1 ne_size2 ne_size3 ne_size4 zero8_length lines_nil line_eq lit8 entc_size entc_one entc_part entc_in entc_made fold_ent fold_entc
attribute [local simp ↓] heap_drew heap_drewN heap_alloc heap_past heap_setCell heap_putRow
attribute [local simp] rowCell_some rowFrozen_some rowHas_some rowIn_some rowPart_full rowPart_lit rowPut_full rowPut_lit rowSet_some size_putRow vs_size fit_all putRow_new ne_size1 ne_size2 ne_size3 ne_size4 zero8_length entc_size

theorem ent_info : (Try.prog.info? 82).map (fun i => (i.zero, i.size, i.bytes)) = some (some entZ, 9, 72) := by kernel_rfl
theorem eltEnt : Elt Try.prog 78 82 9 72 entZ Ent.enc where
  slice := Try.underlying78
  info := ent_info
  zero := entZ_size
  zone := entZ_one
  pos := by omega
  len := Ent.len
  one := Ent.one

/-- The queue at q, ahead of the device at g that has n lines, has room for so many entries; these are in it, in block be. -/
def Que (w : World) (q be g n room : Nat) (es : List Ent) : Prop :=
  (∃ A cap, w.heap[q]? = some (.cells #[.pointer (some ⟨g, 0, none⟩), .int .i64 n, .int .i64 room, .slice A es.length cap] 80 (0, 0)) ∧ Vec 9 82 Ent.enc w q be A cap es) ∧
    es.length ≤ room ∧ 1 ≤ room ∧ room ≤ 16 ∧ 2 ≤ n ∧ n ≤ 64 ∧ Lie n es
theorem Que.keep {w w' : World} {q be g n room : Nat} {es : List Ent} {l : List Nat} (h : Que w q be g n room es) (hc : Chg l w w') (hq : q ∉ l) (hb : be ∉ l) : Que w' q be g n room es := by
  obtain ⟨⟨A, cap, h1, h2⟩, h3⟩ := h
  exact ⟨⟨A, cap, hc.keep h1 hq, h2.keep hc hb⟩, h3⟩
theorem Que.oldq {w : World} {q be g n room : Nat} {es : List Ent} (h : Que w q be g n room es) : Old w q := by
  obtain ⟨⟨A, cap, h1, h2⟩, h3⟩ := h
  exact old h1
theorem Que.olde {w : World} {q be g n room : Nat} {es : List Ent} (h : Que w q be g n room es) : Old w be := by
  obtain ⟨⟨A, cap, h1, h2⟩, h3⟩ := h
  exact h2.old (old h1)

/-! ### Made -/
theorem qnew_nil (room : Int) (w : World) : Calls Try.prog 11 #[.pointer none, .int .i64 room] w fun e w' => e = .returned (.tuple #[.pointer none, .int .i64 1]) ∧ w = w' := by
  go_enter Try.func11, Try.ntmps11
  go_wp2
  go_ret2
  exact ⟨rfl, rfl⟩
theorem qnew_bad (a : Addr) (room : Int) (w : World) (h : ¬ (1 ≤ room ∧ room ≤ 16)) : Calls Try.prog 11 #[.pointer (some a), .int .i64 room] w fun e w' => e = .returned (.tuple #[.pointer none, .int .i64 1]) ∧ w = w' := by
  by_cases h1 : room < 1
  · have t1 : decide (room < 1) = true := by simpa using h1
    clear h h1
    go_enter Try.func11, Try.ntmps11
    go_wp2
    go_ret2
    exact ⟨rfl, rfl⟩
  · have t1 : decide (room < 1) = false := by simpa using h1
    have t2 : decide (16 < room) = true := by simp; omega
    clear h h1
    go_enter Try.func11, Try.ntmps11
    go_wp2
    go_ret2
    exact ⟨rfl, rfl⟩
/-- A queue that was made. -/
def MadeQue (w0 : World) (g n room : Nat) (e : Ending) (w' : World) : Prop :=
  ∃ q, e = .returned (.tuple #[.pointer (some ⟨q, 0, none⟩), .int .i64 0]) ∧ w0.heap.size ≤ q ∧ Chg [] w0 w' ∧ Que w' q q g n room []
theorem qnew_ok (g b n v room : Nat) (xs : List Int) (w : World) (hd : Dev w g b n v xs) (h1 : 1 ≤ room) (h2 : room ≤ 16) : Calls Try.prog 11 #[.pointer (some ⟨g, 0, none⟩), .int .i64 room] w (MadeQue w g n room) := by
  have HD := Lib.hid hd
  have t1 : decide ((room : Int) < 1) = false := by simp; omega
  have t2 : decide ((16 : Int) < room) = false := by simp; omega
  clear hd
  go_enter Try.func11, Try.ntmps11
  go_wp2_with fail
  refine (image_ok g b n v xs _ HD.out).mono ?_
  rintro e w' ⟨g', cap, r', rfl, a1, a2, a3, a4⟩
  clear a1
  go_wp2_with fail
  go_ret2
  refine ⟨w'.heap.size, rfl, a4.size, a4.alloc _, ⟨none, 0, by simp, Vec.nil _ _ _ _ _⟩, by simp, h1, h2, HD.out.2.2.2.1, HD.out.2.2.2.2.1, Lie.nil n⟩

theorem qlen_nil (w : World) : Calls Try.prog 23 #[.pointer none] w fun e w' => e = .returned (.int .i64 0) ∧ w = w' := by
  go_enter Try.func23, Try.ntmps23
  go_wp2
  go_ret
  exact ⟨rfl, rfl⟩
theorem qlen_ok (q be g n room : Nat) (es : List Ent) (w : World) (hq : Que w q be g n room es) : Calls Try.prog 23 #[.pointer (some ⟨q, 0, none⟩)] w fun e w' => e = .returned (.int .i64 es.length) ∧ w = w' := by
  obtain ⟨⟨A, cap, hq, _⟩, _⟩ := hq
  go_enter Try.func23, Try.ntmps23
  go_wp2
  go_ret
  exact ⟨rfl, rfl⟩

/-! ### Put in -/
theorem push_nil (i : Int) (l : List Int) (hl : l.length = 8) (w : World) : Calls Try.prog 13 #[.pointer none, .int .i64 i, .agg (vs l)] w fun e w' => e = .returned (.int .i64 1) ∧ Chg [] w w' := by
  clear hl
  go_enter Try.func13, Try.ntmps13
  go_wp2
  go_ret
  exact ⟨rfl, (Chg.refl _ _).alloc _⟩
theorem push_out (q be g n room : Nat) (es : List Ent) (i : Int) (l : List Int) (w : World) (hq : Que w q be g n room es) (h : ¬ (0 ≤ i ∧ i < n)) : Calls Try.prog 13 #[.pointer (some ⟨q, 0, none⟩), .int .i64 i, .agg (vs l)] w fun e w' => e = .returned (.int .i64 12) ∧ Chg [] w w' := by
  obtain ⟨⟨A, cap, hq, _⟩, _⟩ := hq
  have oq := old hq
  by_cases h1 : i < 0
  · have t1 : decide (i < 0) = true := by simpa using h1
    clear h h1
    go_enter Try.func13, Try.ntmps13
    go_wp2
    go_ret
    exact ⟨rfl, (Chg.refl _ _).alloc _⟩
  · have t1 : decide (i < 0) = false := by simpa using h1
    have t2 : decide ((n : Int) ≤ i) = true := by simp; omega
    clear h h1
    go_enter Try.func13, Try.ntmps13
    go_wp2
    go_ret
    exact ⟨rfl, (Chg.refl _ _).alloc _⟩
theorem push_full (q be g n room : Nat) (es : List Ent) (i : Nat) (l : List Int) (w : World) (hq : Que w q be g n room es) (hi : i < n) (hr : room ≤ es.length) : Calls Try.prog 13 #[.pointer (some ⟨q, 0, none⟩), .int .i64 i, .agg (vs l)] w fun e w' => e = .returned (.int .i64 13) ∧ Chg [] w w' := by
  obtain ⟨⟨A, cap, hq, _⟩, _⟩ := hq
  have oq := old hq
  have t1 : decide ((i : Int) < 0) = false := by simp
  have t2 : decide (n ≤ i) = false := by simp; omega
  have t3 : decide (room ≤ es.length) = true := by simpa using hr
  clear hr
  go_enter Try.func13, Try.ntmps13
  go_wp2
  go_quiet (fail)
  go_wp2
  go_ret
  exact ⟨rfl, ((Chg.refl _ _).alloc _).drewN _⟩
end Go.Proofs.Ytaignekkhfjicaa
