/- A queue of messages: walked. No condition. -/
import Derived.Test.YtkbogampnjamiaaDoorMsgr
namespace Go.Proofs.YtkbogampnjamiaaDoor
open Go.RowKit
set_option linter.unusedVariables false
set_option maxHeartbeats 1000000
attribute [local go_sem ↓] append_appS copy_copS clear_clrS make_mkS slice_slS cell_row frozen_row loadLine storeLine loadMsg storeMsg loadHas storeHas heap_drew heap_drewN heap_alloc heap_past heap_setCell heap_putRow vs_get msc_kd msc_li msc_di msc_ke
attribute [local go_sem] rowCell_some rowFrozen_some rowHas_some rowIn_some rowPart_full rowPart_lit rowPut_full rowPut_lit rowSet_some size_putRow vs_size vs_one wideLine wideMsg wideHas run_loadS run_storeS run_appS run_copS run_clrS run_mkS run_slS loadW_at storeW_at fit_all fit_le one_int one_bool one_pointer one_slice allOne_list putRow_new ne_size1 ne_size2 ne_size3 ne_size4 zero8_length line_eq lit8 msc_size msc_one msc_part msc_in fold_msc
attribute [local simp ↓] heap_drew heap_drewN heap_alloc heap_past heap_setCell heap_putRow
attribute [local simp] rowCell_some rowFrozen_some rowHas_some rowIn_some rowPart_full rowPart_lit rowPut_full rowPut_lit rowSet_some size_putRow vs_size fit_all putRow_new ne_size1 ne_size2 ne_size3 ne_size4 zero8_length msc_size

theorem msg_info : (Tryd.prog.info? 26).map (fun i => (i.zero, i.size, i.bytes)) = some (some msV, 12, 88) := by kernel_rfl
theorem eltMsg : Elt Tryd.prog 32 26 12 88 msV Ms.enc where
  slice := Tryd.underlying32
  info := msg_info
  zero := msV_size
  zone := msV_one
  pos := by omega
  len := Ms.len
  one := Ms.one
theorem msgs_mk (m : Ms) : (#[.agg (msc m)] : Array Value) = #[.agg (msc m)] := rfl

/-- A queue at q, all new to the world W, its messages in block be; the table stands. -/
def Qu (W w : World) (q be : Nat) (xs : List Ms) : Prop :=
  Chg [] W w ∧ Tab W ∧ W.heap.size ≤ q ∧ W.heap.size ≤ be ∧ xs.length ≤ 1000 ∧ ∃ A cap, w.heap[q]? = some (.cells #[.slice A xs.length cap] 34 (0, 0)) ∧ Vof 12 26 Ms.enc w q be A cap xs
theorem Qu.keep {W w w' : World} {q be : Nat} {xs : List Ms} {l : List Nat} (h : Qu W w q be xs) (hc : Chg l w w') (hl : ∀ x ∈ l, W.heap.size ≤ x) (hq : q ∉ l) (hb : be ∉ l) : Qu W w' q be xs := by
  obtain ⟨h1, h2, h3, h4, h5, A, cap, h6, h7⟩ := h
  exact ⟨h1.trans' hc (fun x hx => .inr (hl x hx)), h2, h3, h4, h5, A, cap, hc.keep h6 hq, h7.keep hc hb⟩
theorem Qu.stay {W w w' : World} {q be : Nat} {xs : List Ms} (h : Qu W w q be xs) (hc : Chg [] w w') : Qu W w' q be xs := h.keep hc (by simp) (by simp) (by simp)
theorem Qu.tab {W w : World} {q be : Nat} {xs : List Ms} (h : Qu W w q be xs) : Tab w := h.2.1.keep h.1 (by simp)
theorem Qu.oldq {W w : World} {q be : Nat} {xs : List Ms} (h : Qu W w q be xs) : Old w q := by
  obtain ⟨_, _, _, _, _, A, cap, h6, _⟩ := h; exact old h6
theorem Qu.olde {W w : World} {q be : Nat} {xs : List Ms} (h : Qu W w q be xs) : Old w be := by
  obtain ⟨_, _, _, _, _, A, cap, h6, h7⟩ := h; exact h7.old (old h6)

/-! ### Len, Head -/
theorem len_nil (w : World) : Calls Tryd.prog 21 #[.pointer none] w fun e w' => e = .returned (.int .i64 0) ∧ w = w' := by
  go_enter Tryd.func21, Tryd.ntmps21
  go_wp2
  go_ret
  exact ⟨rfl, rfl⟩
theorem len_ok {W w : World} {q be : Nat} {xs : List Ms} (h : Qu W w q be xs) : Calls Tryd.prog 21 #[.pointer (some ⟨q, 0, none⟩)] w fun e w' => e = .returned (.int .i64 xs.length) ∧ w = w' := by
  obtain ⟨_, _, _, _, _, A, cap, h6, _⟩ := h
  go_enter Tryd.func21, Tryd.ntmps21
  go_wp2
  go_ret
  exact ⟨rfl, rfl⟩
/-- Two results, the first one a message in memory. -/
theorem results_msg2 {fn : Func} {p t : Tmp} (h : fn.results = #[.cell p 26, .tmp t]) (tmps : Array Value) (w : World) (b : Nat) (m : Ms) (fr : Nat × Nat)
    (hp : tmps.getD p undef = .pointer (some ⟨b, 0, none⟩)) (hb : w.heap[b]? = some (.cells (msc m) 26 fr)) (x : Value) (hx : tmps.getD t undef = x) :
    (results fn tmps).run Tryd.prog w = .ok (.tuple #[.agg (msc m), x]) w := by
  subst hx
  have hp' : tmps[p]?.getD undef = .pointer (some ⟨b, 0, none⟩) := by simpa using hp
  have := run_loadVar_row (P := Tryd.prog) w b 26 26 (msc m) fr _ hb Tryd.underlying26 rfl (by rw [msc_size]; kernel_rfl)
  simp [results, h, hp', asAddr, this]
theorem mlitZ : (#[.int .i64 0, .int .i64 0, .bool false, .bool false, .int .u64 0, .int .u64 0, .int .u64 0, .int .u64 0, .int .u64 0, .int .u64 0, .int .u64 0, .int .u64 0] : Array Value) = msc msZ := rfl
attribute [local go_sem ↓] mlitZ
attribute [local simp] mlitZ
theorem mhead_nil (w : World) : Calls Tryd.prog 19 #[.pointer none] w fun e w' => e = .returned (.tuple #[.agg (msc msZ), .bool false]) ∧ Chg [] w w' := by
  go_enter Tryd.func19, Tryd.ntmps19
  go_wp2_with (go_at_call 21; refine (len_nil _).mono ?_; rintro e w' ⟨rfl, rfl⟩)
  refine bodyPost_ret (v := .tuple #[.agg (msc msZ), .bool false]) ?_ (by rfl) ?_
  · exact results_msg2 (by rfl) _ _ w.heap.size msZ (0, 0) (by rfl) (by simp [*]) _ (by rfl)
  · exact ⟨rfl, (Chg.refl _ _).alloc _⟩
theorem headM_nil : headM [] = msZ := rfl
theorem headM_cons (x : Ms) (xs : List Ms) : headM (x :: xs) = x := rfl
theorem mhead_ok {W w : World} {q be : Nat} {xs : List Ms} (h : Qu W w q be xs) : Calls Tryd.prog 19 #[.pointer (some ⟨q, 0, none⟩)] w fun e w' => e = .returned (.tuple #[.agg (msc (headM xs)), .bool (someB xs)]) ∧ Chg [] w w' := by
  have H := Lib.hid h
  cases xs with
  | nil =>
    clear h
    go_enter Tryd.func19, Tryd.ntmps19
    go_wp2_with (go_at_call 21; refine (len_ok (H.out.stay ((Chg.refl [] w).alloc (.cells (msc msZ) 26)))).mono ?_; rintro e w' ⟨rfl, rfl⟩; rw [show (([] : List Ms).length : Int) = 0 from rfl])
    refine bodyPost_ret (v := .tuple #[.agg (msc msZ), .bool false]) ?_ (by rfl) ?_
    · exact results_msg2 (by rfl) _ _ w.heap.size msZ (0, 0) (by rfl) (by simp [*]) _ (by rfl)
    · exact ⟨rfl, (Chg.refl _ _).alloc _⟩
  | cons x xs =>
    obtain ⟨_, _, _, _, _, A, cap, h6, h7⟩ := h
    obtain ⟨hne, o, C, rfl, hb, hi, hp⟩ := h7.first Ms.len
    have hp' : rowPart (some (.cells C 26 (0, 0))) o 12 = msc x := hp
    have oq := old h6
    have ob := old hb
    have l6 : (xs.length : Int) + 1 ≤ 1000 := by have := H.out.2.2.2.2.1; simp at this; omega
    have g1 : (0 : Int) < (xs.length : Int) + 1 := by omega
    have t1 : (((xs.length : Int) + 1) == 0) = false := by simp; omega
    rw [headM_cons]
    clear h7 hp
    go_enter Tryd.func19, Tryd.ntmps19
    go_wp2_with (go_at_call 21; refine (len_ok (H.out.stay ((Chg.refl [] w).alloc (.cells (msc msZ) 26)))).mono ?_; rintro e w' ⟨rfl, rfl⟩; rw [show ((x :: xs).length : Int) = (xs.length : Int) + 1 by simp])
    refine bodyPost_ret (v := .tuple #[.agg (msc x), .bool true]) ?_ (by rfl) ?_
    · exact results_msg2 (by rfl) _ _ w.heap.size x (0, 0) (by rfl) (by simp [*]) _ (by rfl)
    · exact ⟨rfl, (Chg.refl _ _).alloc _⟩
/-- Behind a call that changes the queue. -/
def QuTo (W w : World) (q be : Nat) (ys : List Ms) (v : Value) (e : Ending) (w' : World) : Prop :=
  e = .returned v ∧ ∃ be', Qu W w' q be' ys ∧ Chg [q, be] w w' ∧ (be' = be ∨ w.heap.size ≤ be')
end Go.Proofs.YtkbogampnjamiaaDoor
