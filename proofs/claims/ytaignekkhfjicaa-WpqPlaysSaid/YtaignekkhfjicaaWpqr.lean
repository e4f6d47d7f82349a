/- What the document's own queue returns, and leaves: walked. No condition. -/
import Derived.Test.YtaignekkhfjicaaWpqc
namespace Go.Proofs.Ytaignekkhfjicaa
open Go.RowKit
set_option linter.unusedVariables false
theorem wideREnt : Wide Try.prog 85 9 := ⟨⟨_, Try.underlying85, by rfl⟩, by kernel_rfl⟩
theorem loadREnt (x : Value) : Instr.loadAt 85 x = loadS 85 9 x := rfl
theorem storeREnt (x y : Value) : Instr.storeAt 85 x y = storeS 85 9 x y := rfl
attribute [local go_sem ↓] append_appS copy_copS clear_clrS make_mkS cell_row frozen_row loadLine storeLine loadEnt storeEnt loadREnt storeREnt heap_drew heap_drewN heap_alloc heap_past heap_setCell heap_putRow vs_get entc_pos
attribute [local go_sem] rowCell_some rowFrozen_some rowHas_some rowIn_some rowPart_full rowPart_lit rowPut_full rowPut_lit rowSet_some size_putRow vs_size vs_one wideLine wideEnt wideREnt run_loadS run_storeS run_appS run_copS run_clrS run_mkS loadW_at storeW_at fit_all fit_le one_int one_bool one_pointer one_slice allOne_list putRow_new ne_size1 ne_size2 ne_size3 ne_size4 zero8_length lines_nil line_eq lit8 entc_size entc_one entc_part entc_in entc_made fold_ent fold_entc
attribute [local simp ↓] heap_drew heap_drewN heap_alloc heap_past heap_setCell heap_putRow
attribute [local simp] rowCell_some rowFrozen_some rowHas_some rowIn_some rowPart_full rowPart_lit rowPut_full rowPut_lit rowSet_some size_putRow vs_size fit_all putRow_new ne_size1 ne_size2 ne_size3 ne_size4 zero8_length entc_size


theorem rent_info : (Try.prog.info? 85).map (fun i => (i.zero, i.size, i.bytes)) = some (some entZ, 9, 72) := by kernel_rfl
theorem eltREnt : Elt Try.prog 52 85 9 72 entZ Ent.enc where
  slice := Try.underlying52
  info := rent_info
  zero := entZ_size
  zone := entZ_one
  pos := by omega
  len := Ent.len
  one := Ent.one
/-- The document's queue at p, ahead of its device at o. -/
def RQue (w : World) (p bp o n room : Nat) (es : List Ent) : Prop :=
  (∃ A cap, w.heap[p]? = some (.cells #[.pointer (some ⟨o, 0, none⟩), .int .i64 room, .slice A es.length cap] 54 (0, 0)) ∧ Vec 9 85 Ent.enc w p bp A cap es) ∧
    es.length ≤ room ∧ 1 ≤ room ∧ room ≤ 16 ∧ 2 ≤ n ∧ n ≤ 64 ∧ Lie n es
theorem RQue.keep {w w' : World} {p bp o n room : Nat} {es : List Ent} {l : List Nat} (h : RQue w p bp o n room es) (hc : Chg l w w') (hq : p ∉ l) (hb : bp ∉ l) : RQue w' p bp o n room es := by
  obtain ⟨⟨A, cap, h1, h2⟩, h3⟩ := h
  exact ⟨⟨A, cap, hc.keep h1 hq, h2.keep hc hb⟩, h3⟩
theorem RQue.oldq {w : World} {p bp o n room : Nat} {es : List Ent} (h : RQue w p bp o n room es) : Old w p := by
  obtain ⟨⟨A, cap, h1, h2⟩, h3⟩ := h
  exact old h1
theorem RQue.olde {w : World} {p bp o n room : Nat} {es : List Ent} (h : RQue w p bp o n room es) : Old w bp := by
  obtain ⟨⟨A, cap, h1, h2⟩, h3⟩ := h
  exact h2.old (old h1)
theorem rqnew_nil (room : Int) (w : World) : Calls Try.prog 12 #[.pointer none, .int .i64 room] w fun e w' => e = .returned (.tuple #[.pointer none, .int .i64 1]) ∧ w = w' := by
  go_enter Try.func12, Try.ntmps12
  go_wp2
  go_ret2
  exact ⟨rfl, rfl⟩
theorem rqnew_bad (a : Addr) (room : Int) (w : World) (h : ¬ (1 ≤ room ∧ room ≤ 16)) : Calls Try.prog 12 #[.pointer (some a), .int .i64 room] w fun e w' => e = .returned (.tuple #[.pointer none, .int .i64 1]) ∧ w = w' := by
  by_cases h1 : room < 1
  · have t1 : decide (room < 1) = true := by simpa using h1
    clear h h1
    go_enter Try.func12, Try.ntmps12
    go_wp2
    go_ret2
    exact ⟨rfl, rfl⟩
  · have t1 : decide (room < 1) = false := by simpa using h1
    have t2 : decide (16 < room) = true := by simp; omega
    clear h h1
    go_enter Try.func12, Try.ntmps12
    go_wp2
    go_ret2
    exact ⟨rfl, rfl⟩
def MadeRQue (w0 : World) (o n room : Nat) (e : Ending) (w' : World) : Prop :=
  ∃ p, e = .returned (.tuple #[.pointer (some ⟨p, 0, none⟩), .int .i64 0]) ∧ w0.heap.size ≤ p ∧ Chg [] w0 w' ∧ RQue w' p p o n room []
theorem rqnew_ok (o n room : Nat) (w : World) (hn2 : 2 ≤ n) (hn : n ≤ 64) (h1 : 1 ≤ room) (h2 : room ≤ 16) : Calls Try.prog 12 #[.pointer (some ⟨o, 0, none⟩), .int .i64 room] w (MadeRQue w o n room) := by
  have t1 : decide ((room : Int) < 1) = false := by simp; omega
  have t2 : decide ((16 : Int) < room) = false := by simp; omega
  go_enter Try.func12, Try.ntmps12
  go_wp2
  go_ret2
  exact ⟨w.heap.size, rfl, Nat.le_refl _, (Chg.refl _ _).alloc _, ⟨none, 0, by simp, Vec.nil _ _ _ _ _⟩, by simp, h1, h2, hn2, hn, Lie.nil n⟩

theorem rpush_out (p bp o bq n v room : Nat) (es : List Ent) (xs : List Int) (i : Int) (l : List Int) (w : World) (hq : RQue w p bp o n room es) (hd : RDev w o bq n v xs) (h : ¬ (0 ≤ i ∧ i < n)) : Calls Try.prog 14 #[.pointer (some ⟨p, 0, none⟩), .int .i64 i, .agg (vs l)] w fun e w' => e = .returned (.int .i64 12) ∧ Chg [] w w' := by
  have H := Lib.hid h
  have HD := Lib.hid (hd.keep ((Chg.refl [] w).alloc (.cells (vs l) 40)) (by simp) (by simp))
  obtain ⟨⟨A, cap, hq, _⟩, _⟩ := hq
  have oq := old hq
  clear h hd
  go_enter Try.func14, Try.ntmps14
  go_wp2_with fail
  refine (has_no o bq n v i xs _ HD.out H.out).mono ?_
  rintro e w' ⟨rfl, rfl⟩
  go_wp2
  go_ret
  exact ⟨rfl, (Chg.refl _ _).alloc _⟩
theorem rpush_full (p bp o bq n v room : Nat) (es : List Ent) (xs : List Int) (i : Nat) (l : List Int) (w : World) (hq : RQue w p bp o n room es) (hd : RDev w o bq n v xs) (hi : i < n) (hr : room ≤ es.length) : Calls Try.prog 14 #[.pointer (some ⟨p, 0, none⟩), .int .i64 i, .agg (vs l)] w fun e w' => e = .returned (.int .i64 13) ∧ Chg [] w w' := by
  have HD := Lib.hid (hd.keep ((Chg.refl [] w).alloc (.cells (vs l) 40)) (by simp) (by simp))
  obtain ⟨⟨A, cap, hq, _⟩, _⟩ := hq
  have oq := old hq
  have t3 : decide (room ≤ es.length) = true := by simpa using hr
  clear hr hd
  go_enter Try.func14, Try.ntmps14
  go_wp2_with fail
  refine (has_yes o bq n v i xs _ HD.out (by omega) (by omega)).mono ?_
  rintro e w' ⟨rfl, rfl⟩
  go_wp2
  go_quiet (fail)
  go_wp2
  go_ret
  exact ⟨rfl, ((Chg.refl _ _).alloc _).drewN _⟩
def RQPut (w : World) (p bp o n room : Nat) (es : List Ent) (v : Value) (e : Ending) (w' : World) : Prop :=
  e = .returned v ∧ ∃ bp', (bp' = bp ∨ w.heap.size ≤ bp') ∧ Chg [p, bp] w w' ∧ RQue w' p bp' o n room es
theorem rent_slice (w : World) (e : Ent) : Sl ((w.alloc (.cells (entc e) 85)).drew) 9 (some ⟨w.heap.size, 0, none⟩) 1 (cat Ent.enc [e]) :=
  ⟨by rw [cat_length Ent.len]; rfl, .inr ⟨w.heap.size, 0, entc e, 85, (0, 0), rfl, by simp, by rw [cat_one]; simp [entc, Ent.len, List.take_of_length_le]⟩⟩
theorem rpush_ok (p bp o bq n v room : Nat) (es : List Ent) (xs : List Int) (x : Ent) (w : World) (hq : RQue w p bp o n room es) (hd : RDev w o bq n v xs) (hi : x.pos < n) (hr : es.length < room) :
    Calls Try.prog 14 #[.pointer (some ⟨p, 0, none⟩), .int .i64 x.pos, .agg (vs x.l)] w (RQPut w p bp o n room (es ++ [x]) (.int .i64 0)) := by
  have HQ := Lib.hid hq
  have HD := Lib.hid (hd.keep ((Chg.refl [] w).alloc (.cells (vs x.l) 40)) (by simp) (by simp))
  obtain ⟨⟨A, cap, hq, hv⟩, _⟩ := hq
  have HV := Lib.hid hv
  have oq := old hq
  have t3 : decide (room ≤ es.length) = false := by simpa using hr
  have HR := Lib.hid hr
  have hl8 := x.h
  clear hr hv hd
  go_enter Try.func14, Try.ntmps14
  go_wp2_with fail
  refine (has_yes o bq n v x.pos xs _ HD.out (by omega) (by omega)).mono ?_
  rintro e w' ⟨rfl, rfl⟩
  go_wp2
  go_quiet (fail)
  go_wp2_with fail
  have hbox : ((w.alloc (.cells (vs x.l) 40)).drewN nq).heap[w.heap.size]? = some (.cells (vs x.l) 40 (0, 0)) := by simp
  have c1 := ((Chg.refl [] w).alloc (.cells (vs x.l) 40)).drewN nq
  have HZ := Lib.hid (show ((w.alloc (.cells (vs x.l) 40)).drewN nq).heap.size = w.heap.size + 1 by simp)
  generalize (w.alloc (.cells (vs x.l) 40)).drewN nq = w1 at hbox c1 HZ ⊢
  have hq1 := c1.keep hq (by simp)
  have hv1 := HV.out.keep c1 (by simp)
  have oq1 := old hq1
  have obox := old hbox
  have HC1 := Lib.hid c1
  have ca := ((Chg.refl [] w1).alloc (.cells (entc x) 85)).drew
  obtain ⟨be', cap', A', w2, happ, hv2, hbe, hc2, hqq⟩ := (hv1.keep ca (by simp)).app (ty := 52) eltREnt (oq1.chg ca) (rent_slice w1 x) (c := 1) rfl (by have := HR.out; have := HQ.out.2.2.2.1; omega) (by have := HR.out; have := HQ.out.2.2.2.1; unfold maxLen; omega)
  have hq2 : w2.heap[p]? = some (.cells #[.pointer (some ⟨o, 0, none⟩), .int .i64 room, .slice A es.length cap] 54 (0, 0)) := by rw [hqq]; exact ca.keep hq1 (by simp)
  have HV2 := Lib.hid hv2
  have HB := Lib.hid hbe
  have HC2 := Lib.hid hc2
  have HCA := Lib.hid ca
  clear hv1 hv2 hqq hbe hc2 ca c1
  go_region
  all_goals
    go_wp2
    go_ret
    refine ⟨rfl, be', ?_, ?_, ⟨A', cap', ?_, ?_⟩, ?_, HQ.out.2.2.1, HQ.out.2.2.2.1, HQ.out.2.2.2.2.1, HQ.out.2.2.2.2.2.1, HQ.out.2.2.2.2.2.2.snoc hi⟩
    · have h1 := HB.out
      have h2 := HZ.out
      have h3 : ((w1.alloc (.cells (entc x) 85)).drew).heap.size = w1.heap.size + 1 := by simp
      omega
    · exact (((HC1.out.trans HCA.out).mono (l' := [p, bp]) (by simp)).trans' HC2.out (by simp)).setCell _ _ _ (.inl (by simp))
    · simp [hq2]
    · exact HV2.out.keep ((Chg.refl [p] w2).setCell _ _ _ (.inl (by simp))) (by have := (HV2.out.there (by simp)).1; simpa using this)
    · have := HR.out; simp; omega
end Go.Proofs.Ytaignekkhfjicaa
