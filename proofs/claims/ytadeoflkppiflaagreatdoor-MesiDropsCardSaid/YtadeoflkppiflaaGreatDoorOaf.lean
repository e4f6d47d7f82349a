/- Texts of the walk, one behind the other: Wpqr Wpqt Wpqw Wpqg Aga Agb Agc. No condition. -/
import Derived.Test.YtadeoflkppiflaaGreatDoorOaa
import Derived.Test.YtadeoflkppiflaaGreatDoorOab
import Derived.Test.YtadeoflkppiflaaGreatDoorOac
import Derived.Test.YtadeoflkppiflaaGreatDoorOad
import Derived.Test.YtadeoflkppiflaaGreatDoorOae
import Derived.BigQuiet
import Derived.Deep.Cut
import Derived.Deep.CutBlock
import Derived.Deep.CutRange
import Derived.Deep.DeepCutAuto
import Derived.Deep.QuietTactic
import Derived.Deep.RegionHeld3
import Derived.Deep.RegionWith
import Derived.IntWalk
section
namespace Go.Proofs.YtadeoflkppiflaaGreatDoor
open Go.RowKit
set_option linter.unusedVariables false
set_option maxRecDepth 100000
theorem wideREnt : Wide Tryz.prog 201 9 := ⟨⟨_, Tryz.underlying201, by rfl⟩, by kernel_rfl⟩
theorem loadREnt (x : Value) : Instr.loadAt 201 x = loadS 201 9 x := rfl
theorem storeREnt (x y : Value) : Instr.storeAt 201 x y = storeS 201 9 x y := rfl
attribute [local go_sem ↓] append_appS copy_copS clear_clrS make_mkS cell_row frozen_row loadLine storeLine loadEnt storeEnt loadREnt storeREnt heap_drew heap_drewN heap_alloc heap_past heap_setCell heap_putRow vs_get entc_pos
attribute [local go_sem] rowCell_some rowFrozen_some rowHas_some rowIn_some rowPart_full rowPart_lit rowPut_full rowPut_lit rowSet_some size_putRow vs_size vs_one wideLine wideEnt wideREnt run_loadS run_storeS run_appS run_copS run_clrS run_mkS loadW_at storeW_at fit_all fit_le one_int one_bool one_pointer one_slice allOne_list putRow_new ne_size1 ne_size2 ne_size3 ne_size4 zero8_length lines_nil line_eq lit8 entc_size entc_one entc_part entc_in entc_made fold_ent fold_entc
attribute [local simp ↓] heap_drew heap_drewN heap_alloc heap_past heap_setCell heap_putRow
attribute [local simp] rowCell_some rowFrozen_some rowHas_some rowIn_some rowPart_full rowPart_lit rowPut_full rowPut_lit rowSet_some size_putRow vs_size fit_all putRow_new ne_size1 ne_size2 ne_size3 ne_size4 zero8_length entc_size


/-- The document's queue at p, ahead of its device at o. -/
def RQue (w : World) (p bp o n room : Nat) (es : List Ent) : Prop :=
  (∃ A cap, w.heap[p]? = some (.cells #[.pointer (some ⟨o, 0, none⟩), .int .i64 room, .slice A es.length cap] 172 (0, 0)) ∧ Vec 9 201 Ent.enc w p bp A cap es) ∧
    es.length ≤ room ∧ 1 ≤ room ∧ room ≤ 16 ∧ 2 ≤ n ∧ n ≤ 64 ∧ Lie n es
theorem RQue.keep {w w' : World} {p bp o n room : Nat} {es : List Ent} {l : List Nat} (h : RQue w p bp o n room es) (hc : Chg l w w') (hq : p ∉ l) (hb : bp ∉ l) : RQue w' p bp o n room es := by
  obtain ⟨⟨A, cap, h1, h2⟩, h3⟩ := h
  exact ⟨⟨A, cap, hc.keep h1 hq, h2.keep hc hb⟩, h3⟩
theorem RQue.oldq {w : World} {p bp o n room : Nat} {es : List Ent} (h : RQue w p bp o n room es) : Old w p := by
  obtain ⟨⟨A, cap, h1, h2⟩, h3⟩ := h
  exact old h1
theorem RQue.olde {w : World} {p bp o n room : Nat} {es : List Ent} (h : RQue w p bp o n room es) : Old w bp := by
  obtain ⟨⟨A, cap, h1, h2⟩, h3⟩ := h
  exact h2.old (old h1)
end Go.Proofs.YtadeoflkppiflaaGreatDoor
end
section
namespace Go.Proofs.YtadeoflkppiflaaGreatDoor
open Go.RowKit
set_option linter.unusedVariables false
set_option maxRecDepth 100000
attribute [local go_sem ↓] append_appS copy_copS clear_clrS make_mkS cell_row frozen_row loadLine storeLine loadEnt storeEnt loadREnt storeREnt heap_drew heap_drewN heap_alloc heap_past heap_setCell heap_putRow vs_get entc_pos
attribute [local go_sem] rowCell_some rowFrozen_some rowHas_some rowIn_some rowPart_full rowPart_lit rowPut_full rowPut_lit rowSet_some size_putRow vs_size vs_one wideLine wideEnt wideREnt run_loadS run_storeS run_appS run_copS run_clrS run_mkS loadW_at storeW_at fit_all fit_le one_int one_bool one_pointer one_slice allOne_list putRow_new ne_size1 ne_size2 ne_size3 ne_size4 zero8_length lines_nil line_eq lit8 entc_size entc_one entc_part entc_in entc_made fold_ent fold_entc fold_vs
attribute [local simp ↓] heap_drew heap_drewN heap_alloc heap_past heap_setCell heap_putRow
attribute [local simp] rowCell_some rowFrozen_some rowHas_some rowIn_some rowPart_full rowPart_lit rowPut_full rowPut_lit rowSet_some size_putRow vs_size fit_all putRow_new ne_size1 ne_size2 ne_size3 ne_size4 zero8_length entc_size


/-! ### Drained -/
def RApart (p bp o bq : Nat) : Prop := p ≠ o ∧ p ≠ bq ∧ bp ≠ o ∧ bp ≠ bq
/-! ### The power fails -/
end Go.Proofs.YtadeoflkppiflaaGreatDoor
end
section
namespace Go.Proofs.YtadeoflkppiflaaGreatDoor
open Go.RowKit
set_option linter.unusedVariables false
set_option maxRecDepth 100000
attribute [local go_sem ↓] append_appS copy_copS clear_clrS make_mkS cell_row frozen_row loadLine storeLine loadEnt storeEnt loadREnt storeREnt heap_drew heap_drewN heap_alloc heap_past heap_setCell heap_putRow vs_get entc_pos
attribute [local go_sem] rowCell_some rowFrozen_some rowHas_some rowIn_some rowPart_full rowPart_lit rowPut_full rowPut_lit rowSet_some size_putRow vs_size vs_one wideLine wideEnt wideREnt run_loadS run_storeS run_appS run_copS run_clrS run_mkS loadW_at storeW_at fit_all fit_le one_int one_bool one_pointer one_slice allOne_list putRow_new ne_size1 ne_size2 ne_size3 ne_size4 zero8_length lines_nil line_eq lit8 entc_size entc_one entc_part entc_in entc_made fold_ent fold_entc fold_vs
attribute [local simp ↓] heap_drew heap_drewN heap_alloc heap_past heap_setCell heap_putRow
attribute [local simp] rowCell_some rowFrozen_some rowHas_some rowIn_some rowPart_full rowPart_lit rowPut_full rowPut_lit rowSet_some size_putRow vs_size fit_all putRow_new ne_size1 ne_size2 ne_size3 ne_size4 zero8_length entc_size


/-! ### A queue with its device -/
/-- All of it is new to the world W; nothing else has changed since. -/
def Sys (W w : World) (q be g b n v room : Nat) (es : List Ent) (xs : List Int) : Prop :=
  Chg [] W w ∧ Que w q be g n room es ∧ Dev w g b n v xs ∧ Apart q be g b ∧ W.heap.size ≤ q ∧ W.heap.size ≤ be ∧ W.heap.size ≤ g ∧ W.heap.size ≤ b
theorem Sys.keep {W w w' : World} {q be g b n v room : Nat} {es : List Ent} {xs : List Int} (h : Sys W w q be g b n v room es xs) (hc : Chg [] w w') : Sys W w' q be g b n v room es xs :=
  ⟨h.1.trans hc, h.2.1.keep hc (by simp) (by simp), h.2.2.1.keep hc (by simp) (by simp), h.2.2.2⟩
def SysTo (W w : World) (q be g b n v room : Nat) (es : List Ent) (xs : List Int) (val : Value) (e : Ending) (w' : World) : Prop :=
  e = .returned val ∧ ∃ be', Sys W w' q be' g b n v room es xs ∧ Chg [q, be, g, b] w w' ∧ (be' = be ∨ w.heap.size ≤ be')
theorem Sys.in4 {W w : World} {q be g b n v room : Nat} {es : List Ent} {xs : List Int} (h : Sys W w q be g b n v room es xs) : ∀ x ∈ [q, be, g, b], x ∈ ([] : List Nat) ∨ W.heap.size ≤ x := by
  intro x hx
  have := h.2.2.2.2
  simp only [List.mem_cons, List.not_mem_nil, or_false] at hx
  rcases hx with rfl | rfl | rfl | rfl
  · exact .inr this.1
  · exact .inr this.2.1
  · exact .inr this.2.2.1
  · exact .inr this.2.2.2
theorem Dev.oldg {w : World} {g b n v : Nat} {xs : List Int} (h : Dev w g b n v xs) : g < w.heap.size := (old h.1.choose_spec.choose_spec).lt
theorem Dev.oldb {w : World} {g b n v : Nat} {xs : List Int} (h : Dev w g b n v xs) : b < w.heap.size := (old h.2.1).lt
theorem notNew {w : World} {q be be' g b k : Nat} (hk : k ∉ [q, be, g, b]) (hl : k < w.heap.size) (hb : be' = be ∨ w.heap.size ≤ be') : k ∉ [q, be', g, b] := by
  simp at hk ⊢
  omega
section
variable {W w : World} {q be g b n v room : Nat} {es : List Ent} {xs : List Int} (h : Sys W w q be g b n v room es xs)
include h
theorem Sys.len : es.length ≤ room := h.2.1.2.1
theorem Sys.lie : Lie n es := h.2.1.2.2.2.2.2.2
theorem Sys.size : xs.length = n * 8 := h.2.2.1.2.2.1
theorem Sys.n2 : 2 ≤ n := h.2.1.2.2.2.2.1
theorem Sys.v1 : 1 ≤ v := h.2.2.1.2.2.2.2.2.1
theorem Sys.over : (over xs es).length = n * 8 := over_length es xs h.size h.lie
theorem Sys.new4 {k : Nat} (hk : w.heap.size ≤ k) : k ∉ [q, be, g, b] := by
  have h1 := h.2.1.oldq.lt
  have h2 := h.2.1.olde.lt
  have h3 := h.2.2.1.oldg
  have h4 := h.2.2.1.oldb
  simp; omega
theorem sys_push (x : Ent) (hi : x.pos < n) (hr : es.length < room) : Calls Tryz.prog 136 #[.pointer (some ⟨q, 0, none⟩), .int .i64 x.pos, .agg (vs x.l)] w (SysTo W w q be g b n v room (es ++ [x]) xs (.int .i64 0)) :=
  (push_ok q be g n room es x w h.2.1 hi hr).mono fun e w' ⟨he, be', hb, hc, hq⟩ => by
    have ha := h.2.2.2.1
    have hd := h.2.2.1
    have hg := hd.oldg
    have hgb := hd.oldb
    have hn := h.2.2.2.2
    have hw := h.1.size
    obtain ⟨a1, a2, a3, a4⟩ := ha
    refine ⟨he, be', ⟨?_, hq, hd.keep hc (by simp; omega) (by simp; omega), ⟨a1, a2, ?_, ?_⟩, hn.1, ?_, hn.2.2⟩, hc.mono (by simp), hb⟩
    · exact h.1.trans' hc (by simp; omega)
    · rcases hb with rfl | hb <;> omega
    · rcases hb with rfl | hb <;> omega
    · rcases hb with rfl | hb <;> omega
theorem sys_drain (x : Ent) (j : Nat) (hx : es[j]? = some x) (hi : ∀ e ∈ es.take j, (e.pos : Int) ≠ (x.pos : Int)) : Calls Tryz.prog 106 #[.pointer (some ⟨q, 0, none⟩), .int .i64 x.pos] w (SysTo W w q be g b n v room (es.eraseIdx j) (lnPut xs x.pos x.l) (.int .i64 0)) :=
  (drain_ok q be g b n v room es xs j x w h.2.1 h.2.2.1 h.2.2.2.1 hx hi).mono fun e w' ⟨he, hc, hq, hd⟩ => ⟨he, be, ⟨h.1.trans' hc h.in4, hq, hd, h.2.2.2⟩, hc, .inl rfl⟩
theorem sys_read (i : Nat) (hi : i < n) : Calls Tryz.prog 147 #[.pointer (some ⟨q, 0, none⟩), .int .i64 i] w (SysTo W w q be g b n v room es xs (.tuple #[.agg (vs (ln (Go.Proofs.YtadeoflkppiflaaGreatDoor.over xs es) i)), .int .i64 0])) :=
  (qread_ok q be g b n v room es xs i w h.2.1 h.2.2.1 hi).mono fun e w' ⟨he, hc, hd⟩ => by
    obtain ⟨a1, a2, a3, a4⟩ := h.2.2.2.1
    exact ⟨he, be, ⟨h.1.trans' hc (by have := h.2.2.2.2; simp; omega), h.2.1.keep hc (by simp; omega) (by simp; omega), hd, h.2.2.2⟩, hc.mono (by simp), .inl rfl⟩
end
theorem wsys_new (W : World) (n v room : Nat) (w : World) (g b : Nat) (xs : List Int) (hc : Chg [] W w) (hd : Dev w g b n v xs) (hg : W.heap.size ≤ g) (hb : W.heap.size ≤ b) (h1 : 1 ≤ room) (h2 : room ≤ 16) :
    Calls Tryz.prog 42 #[.pointer (some ⟨g, 0, none⟩), .int .i64 room] w fun e w' => ∃ q, e = .returned (.tuple #[.pointer (some ⟨q, 0, none⟩), .int .i64 0]) ∧ Sys W w' q q g b n v room [] xs ∧ Chg [] w w' ∧ w.heap.size ≤ q :=
  (qnew_ok g b n v room xs w hd h1 h2).mono fun e w' ⟨q, he, hq, hc', hqq⟩ => by
    have h3 := hd.oldg
    have h4 := hd.oldb
    have h5 := hc.size
    exact ⟨q, he, ⟨hc.trans hc', hqq, hd.keep hc' (by simp) (by simp), ⟨by omega, by omega, by omega, by omega⟩, by omega, by omega, hg, hb⟩, hc', hq⟩
end Go.Proofs.YtadeoflkppiflaaGreatDoor
end
section
namespace Go.Proofs.YtadeoflkppiflaaGreatDoor
open Go.RowKit
set_option linter.unusedVariables false
set_option maxRecDepth 100000
attribute [local go_sem ↓] append_appS copy_copS clear_clrS make_mkS cell_row frozen_row loadLine storeLine loadEnt storeEnt loadREnt storeREnt heap_drew heap_drewN heap_alloc heap_past heap_setCell heap_putRow vs_get entc_pos
attribute [local go_sem] rowCell_some rowFrozen_some rowHas_some rowIn_some rowPart_full rowPart_lit rowPut_full rowPut_lit rowSet_some size_putRow vs_size vs_one wideLine wideEnt wideREnt run_loadS run_storeS run_appS run_copS run_clrS run_mkS loadW_at storeW_at fit_all fit_le one_int one_bool one_pointer one_slice allOne_list putRow_new ne_size1 ne_size2 ne_size3 ne_size4 zero8_length lines_nil line_eq lit8 entc_size entc_one entc_part entc_in entc_made fold_ent fold_entc fold_vs vs_set
attribute [local simp ↓] heap_drew heap_drewN heap_alloc heap_past heap_setCell heap_putRow
attribute [local simp] rowCell_some rowFrozen_some rowHas_some rowIn_some rowPart_full rowPart_lit rowPut_full rowPut_lit rowSet_some size_putRow vs_size fit_all putRow_new ne_size1 ne_size2 ne_size3 ne_size4 zero8_length entc_size


/-! ### What the calls answer, and leave -/
def wpushVal (n room : Nat) (es : List Ent) (li : Int) : Int := if 0 ≤ li ∧ li < n then (if room ≤ es.length then 13 else 0) else 12
def pushEs (n room : Nat) (es : List Ent) (li : Int) (l : List Int) (h : l.length = 8) : List Ent := if 0 ≤ li ∧ li < n then (if room ≤ es.length then es else es ++ [⟨li.toNat, l, h⟩]) else es
/-- The place of the first entry of a line, or behind them all. -/
def firstAt (es : List Ent) (li : Int) : Nat := es.findIdx (fun e => (e.pos : Int) == li)
def drainVal (es : List Ent) (li : Int) : Int := if firstAt es li < es.length then 0 else 14
def drainEs (es : List Ent) (li : Int) : List Ent := es.eraseIdx (firstAt es li)
def drainXs (xs : List Int) (es : List Ent) (li : Int) : List Int := match es[firstAt es li]? with | some e => lnPut xs e.pos e.l | none => xs
theorem first_some {es : List Ent} {li : Int} (h : firstAt es li < es.length) : ∃ e, es[firstAt es li]? = some e ∧ (e.pos : Int) = li ∧ ∀ x ∈ es.take (firstAt es li), (x.pos : Int) ≠ li := by
  refine ⟨es[firstAt es li], List.getElem?_eq_getElem h, ?_, ?_⟩
  · have := List.findIdx_getElem (p := fun e : Ent => (e.pos : Int) == li) (xs := es) (w := h)
    simp only [beq_iff_eq] at this
    exact this
  · intro x hx
    obtain ⟨i, hi, rfl⟩ := List.getElem_of_mem hx
    rw [List.getElem_take]
    have h1 : i < es.findIdx (fun e : Ent => (e.pos : Int) == li) := by rw [List.length_take] at hi; unfold firstAt at hi; omega
    have := List.not_of_lt_findIdx h1
    simpa using this
theorem first_none {es : List Ent} {li : Int} (h : ¬ firstAt es li < es.length) : ∀ e ∈ es, (e.pos : Int) ≠ li := by
  have h1 : es.findIdx (fun e : Ent => (e.pos : Int) == li) = es.length := Nat.le_antisymm List.findIdx_le_length (by unfold firstAt at h; omega)
  have := List.findIdx_eq_length.1 h1
  intro e he
  simpa using this e he
/-! ### The one -/
section
variable {W w : World} {q be g b n v room : Nat} {es : List Ent} {xs : List Int} (h : Sys W w q be g b n v room es xs)
include h
theorem any_push (li : Int) (l : List Int) (hl : l.length = 8) : Calls Tryz.prog 136 #[.pointer (some ⟨q, 0, none⟩), .int .i64 li, .agg (vs l)] w (SysTo W w q be g b n v room (pushEs n room es li l hl) xs (.int .i64 (wpushVal n room es li))) := by
  unfold pushEs wpushVal
  by_cases hi : 0 ≤ li ∧ li < n
  · obtain ⟨j, rfl⟩ := Int.eq_ofNat_of_zero_le hi.1
    have hj : j < n := by omega
    rw [if_pos hi, if_pos hi]
    by_cases hr : room ≤ es.length
    · rw [if_pos hr, if_pos hr]
      exact (push_full q be g n room es j l w h.2.1 hj hr).mono fun e w' ⟨he, hc⟩ => ⟨he, be, h.keep hc, hc.mono (by simp), .inl rfl⟩
    · rw [if_neg hr, if_neg hr]
      exact sys_push h ⟨j, l, hl⟩ hj (by omega)
  · rw [if_neg hi, if_neg hi]
    exact (push_out q be g n room es li l w h.2.1 hi).mono fun e w' ⟨he, hc⟩ => ⟨he, be, h.keep hc, hc.mono (by simp), .inl rfl⟩
theorem any_drain (li : Int) : Calls Tryz.prog 106 #[.pointer (some ⟨q, 0, none⟩), .int .i64 li] w (SysTo W w q be g b n v room (drainEs es li) (drainXs xs es li) (.int .i64 (drainVal es li))) := by
  unfold drainEs drainVal drainXs
  by_cases hi : firstAt es li < es.length
  · obtain ⟨x, h1, h2, h3⟩ := first_some hi
    rw [if_pos hi, h1]
    subst h2
    exact sys_drain h x _ h1 h3
  · rw [if_neg hi, List.eraseIdx_of_length_le (by omega), List.getElem?_eq_none (by omega)]
    exact (drain_none q be g n room es li w h.2.1 (first_none hi)).mono fun e w' ⟨he, hc⟩ => ⟨he, be, h.keep hc, hc.mono (by simp), .inl rfl⟩
end

/-! ### The other one -/
def RSys (w : World) (p bp o bq n v room : Nat) (es : List Ent) (xs : List Int) : Prop := RQue w p bp o n room es ∧ RDev w o bq n v xs ∧ RApart p bp o bq
theorem RSys.keep {w w' : World} {p bp o bq n v room : Nat} {es : List Ent} {xs : List Int} {l : List Nat} (h : RSys w p bp o bq n v room es xs) (hc : Chg l w w') (hl : ∀ x ∈ [p, bp, o, bq], x ∉ l) : RSys w' p bp o bq n v room es xs :=
  ⟨h.1.keep hc (hl p (by simp)) (hl bp (by simp)), h.2.1.keep hc (hl o (by simp)) (hl bq (by simp)), h.2.2⟩
section
variable {w : World} {p bp o bq n v room : Nat} {es : List Ent} {xs : List Int} (h : RSys w p bp o bq n v room es xs)
include h
theorem RSys.olds : p < w.heap.size ∧ bp < w.heap.size ∧ o < w.heap.size ∧ bq < w.heap.size := ⟨h.1.oldq.lt, h.1.olde.lt, (old (h.2.1.1.choose_spec)).lt, (old (h.2.1.2.1.choose_spec)).lt⟩
end

/-! ### Both -/
def Both (W w : World) (q be g b p bp o bq n v room : Nat) (es : List Ent) (xs : List Int) (es' : List Ent) (xs' : List Int) : Prop :=
  Sys W w q be g b n v room es xs ∧ RSys w p bp o bq n v room es' xs' ∧ (∀ x ∈ [p, bp, o, bq], x ∉ [q, be, g, b]) ∧ ∀ x ∈ [p, bp, o, bq], W.heap.size ≤ x
section
variable {W w w' : World} {q be g b p bp o bq n v room : Nat} {es es' es2 : List Ent} {xs xs' xs2 : List Int} (h : Both W w q be g b p bp o bq n v room es xs es' xs')
include h
theorem Both.keep (hc : Chg [] w w') : Both W w' q be g b p bp o bq n v room es xs es' xs' := ⟨h.1.keep hc, h.2.1.keep hc (by simp), h.2.2⟩
theorem Both.one {be' : Nat} (hs : Sys W w' q be' g b n v room es2 xs2) (hc : Chg [q, be, g, b] w w') (hb : be' = be ∨ w.heap.size ≤ be') : Both W w' q be' g b p bp o bq n v room es2 xs2 es' xs' := by
  refine ⟨hs, h.2.1.keep hc h.2.2.1, fun x hx => ?_, h.2.2.2⟩
  have ho := h.2.1.olds
  refine notNew (h.2.2.1 x hx) ?_ hb
  simp only [List.mem_cons, List.not_mem_nil, or_false] at hx
  rcases hx with rfl | rfl | rfl | rfl <;> omega
theorem Both.other {bp' : Nat} (hs : RSys w' p bp' o bq n v room es2 xs2) (hc : Chg [p, bp, o, bq] w w') (hb : bp' = bp ∨ bp' = p ∨ w.heap.size ≤ bp') : Both W w' q be g b p bp' o bq n v room es xs es2 xs2 := by
  have hd : ∀ y ∈ [q, be, g, b], y ∉ [p, bp, o, bq] := fun y hy h1 => h.2.2.1 y h1 hy
  obtain ⟨s1, s2, s3, s4, s5⟩ := h.1
  have hx : ∀ x ∈ [p, bp', o, bq], x ∈ [p, bp, o, bq] ∨ w.heap.size ≤ x := by
    intro x hx
    simp only [List.mem_cons, List.not_mem_nil, or_false] at hx ⊢
    rcases hx with rfl | rfl | rfl | rfl
    · exact .inl (.inl rfl)
    · rcases hb with rfl | rfl | hb
      · exact .inl (.inr (.inl rfl))
      · exact .inl (.inl rfl)
      · exact .inr hb
    · exact .inl (.inr (.inr (.inl rfl)))
    · exact .inl (.inr (.inr (.inr rfl)))
  refine ⟨⟨s1.trans' hc (fun x hx => .inr (h.2.2.2 x hx)), s2.keep hc (hd q (by simp)) (hd be (by simp)), s3.keep hc (hd g (by simp)) (hd b (by simp)), s4, s5⟩, hs, fun x hm => ?_, fun x hm => ?_⟩
  · rcases hx x hm with h1 | h1
    · exact h.2.2.1 x h1
    · exact h.1.new4 h1
  · rcases hx x hm with h1 | h1
    · exact h.2.2.2 x h1
    · exact Nat.le_trans s1.size h1
end

/-! ### A step's cells -/
end Go.Proofs.YtadeoflkppiflaaGreatDoor
end
section
namespace Go.Proofs.YtadeoflkppiflaaGreatDoor
open Go.RowKit
set_option linter.unusedVariables false
set_option maxHeartbeats 1000000
attribute [local go_sem ↓] append_appS copy_copS clear_clrS make_mkS cell_row frozen_row loadLine storeLine loadSlot storeSlot heap_drew heap_drewN heap_alloc heap_past heap_setCell heap_putRow vs_get slc_st slc_li slc_us slice_slS loadMsg storeMsg loadHas storeHas msc_kd msc_li msc_di msc_ke
attribute [local go_sem] rowCell_some rowFrozen_some rowHas_some rowIn_some rowPart_full rowPart_lit rowPut_full rowPut_lit rowSet_some size_putRow vs_size vs_one wideLine wideSlot run_loadS run_storeS run_appS run_copS run_clrS run_mkS loadW_at storeW_at fit_all fit_le one_int one_bool one_pointer one_slice allOne_list putRow_new ne_size1 ne_size2 ne_size3 ne_size4 zero8_length lines_nil line_eq lit8 slc_size slc_one slc_part slc_in fold_slt fold_slc slc_set_us wideMsg wideHas run_slS msc_size msc_one msc_part msc_in fold_msc msc_putDi msc_putKe msc_putX msc_has ms4_lit ms4_k ms4_l ms4_e
attribute [local simp ↓] heap_drew heap_drewN heap_alloc heap_past heap_setCell heap_putRow
attribute [local simp] rowCell_some rowFrozen_some rowHas_some rowIn_some rowPart_full rowPart_lit rowPut_full rowPut_lit rowSet_some size_putRow vs_size fit_all putRow_new ne_size1 ne_size2 ne_size3 ne_size4 zero8_length slc_size msc_size msc_putDi msc_putKe msc_putX msc_has fit_le ms4_k ms4_l ms4_e

theorem agen_calls1 {P : Program} {fn : FuncId} {vs : Array Value} {K : Ending → World → Prop} {w W : World} {b1 : Nat} {x1 : Obj} (hc : Chg [] w W) (h1 : W.heap[b1]? = some x1)
    (h : ∀ W', Chg [] w W' → W'.heap[b1]? = some x1 → Calls P fn vs W' K) : Calls P fn vs W K := h W hc h1
/-- A new block behind others, all of which is replaced. -/
theorem aputRow_newB (w : World) (o : Obj) (c cs : Array Value) (t : TypeId) (h : cs.size = c.size) : putRow ((w.alloc o).alloc (.cells c t)) (w.heap.size + 1) 0 cs = (w.alloc o).alloc (.cells cs t) := by
  have := putRow_new (w.alloc o) c cs t h
  rwa [show (w.alloc o).heap.size = w.heap.size + 1 by simp] at this
theorem aputRow_newC (w : World) (o o' : Obj) (c cs : Array Value) (t : TypeId) (h : cs.size = c.size) : putRow (((w.alloc o).alloc o').alloc (.cells c t)) (w.heap.size + 2) 0 cs = ((w.alloc o).alloc o').alloc (.cells cs t) := by
  have := aputRow_newB (w.alloc o) o' c cs t h
  rwa [show (w.alloc o).heap.size = w.heap.size + 1 by simp] at this
theorem asize11 (n : Nat) : n + 1 + 1 = n + 2 := rfl
attribute [local go_sem] aputRow_newB aputRow_newC asize11
attribute [local simp] aputRow_newB aputRow_newC
theorem gwrite_any (st : Int) (w : World) : Calls Tryz.prog 139 #[.int .i64 st] w fun e w' => e = .returned (.bool (mayWr st)) ∧ w = w' := by
  cases t1 : (st == 2)
  all_goals
    go_enter Tryz.func139, Tryz.ntmps139
    try dsimp only [List.append]
    go_wp2_with fail
    go_ret
    exact ⟨by simp [mayWr, t1], rfl⟩
theorem rest_or (st : Int) : atRest st = (st == 1 || mayWr st) := by
  unfold atRest mayWr
  rw [Bool.eq_iff_iff]
  simp
  omega
theorem grest_any (st : Int) (w : World) : Calls Tryz.prog 196 #[.int .i64 st] w fun e w' => e = .returned (.bool (atRest st)) ∧ w = w' := by
  cases t1 : (st == 1)
  all_goals
    go_enter Tryz.func196, Tryz.ntmps196
    try dsimp only [List.append]
    go_wp2_with (go_at_call 139; refine (gwrite_any _ _).mono ?_; rintro e w' ⟨rfl, rfl⟩)
    go_ret
    exact ⟨by simp [rest_or, mayWr, t1], rfl⟩
theorem grest_at (st : Int) (b : Bool) (h : atRest st = b) (w : World) : Calls Tryz.prog 196 #[.int .i64 st] w fun e w' => e = .returned (.bool b) ∧ w = w' := h ▸ grest_any st w
theorem gwrite_at (st : Int) (b : Bool) (h : mayWr st = b) (w : World) : Calls Tryz.prog 139 #[.int .i64 st] w fun e w' => e = .returned (.bool b) ∧ w = w' := h ▸ gwrite_any st w
theorem gread_any (st : Int) (w : World) : Calls Tryz.prog 131 #[.int .i64 st] w fun e w' => e = .returned (.bool (mayR st)) ∧ w = w' := by
  cases t1 : atRest st
  all_goals
    go_enter Tryz.func131, Tryz.ntmps131
    try dsimp only [List.append]
    go_wp2_with (go_at_call 196; refine (grest_at _ _ t1 _).mono ?_; rintro e w' ⟨rfl, rfl⟩)
    go_ret
    exact ⟨by simp [mayR, t1], rfl⟩
theorem gline_any (li : Int) (w : World) : Calls Tryz.prog 128 #[.int .i64 li] w fun e w' => e = .returned (.bool (isLn li)) ∧ w = w' := by
  cases t1 : decide (0 ≤ li)
  all_goals
    go_enter Tryz.func128, Tryz.ntmps128
    try dsimp only [List.append]
    go_wp2_with fail
    go_ret
    exact ⟨by simp [isLn, t1], rfl⟩
theorem gword_any (li : Int) (w : World) : Calls Tryz.prog 129 #[.int .i64 li] w fun e w' => e = .returned (.bool (isWd li)) ∧ w = w' := by
  cases t1 : decide (0 ≤ li)
  all_goals
    go_enter Tryz.func129, Tryz.ntmps129
    try dsimp only [List.append]
    go_wp2_with fail
    go_ret
    exact ⟨by simp [isWd, t1], rfl⟩
theorem gread_at (st : Int) (b : Bool) (h : mayR st = b) (w : World) : Calls Tryz.prog 131 #[.int .i64 st] w fun e w' => e = .returned (.bool b) ∧ w = w' := h ▸ gread_any st w
theorem gline_at (li : Int) (b : Bool) (h : isLn li = b) (w : World) : Calls Tryz.prog 128 #[.int .i64 li] w fun e w' => e = .returned (.bool b) ∧ w = w' := h ▸ gline_any li w
theorem gword_at (li : Int) (b : Bool) (h : isWd li = b) (w : World) : Calls Tryz.prog 129 #[.int .i64 li] w fun e w' => e = .returned (.bool b) ∧ w = w' := h ▸ gword_any li w
/-! ### Messages, words, that lie in a cell -/
theorem results_ms1 {fn : Func} {p : Tmp} (h : fn.results = #[.cell p 38]) (tmps : Array Value) (w : World) (b : Nat) (x : Ms) (fr : Nat × Nat)
    (hp : tmps.getD p undef = .pointer (some ⟨b, 0, none⟩)) (hb : w.heap[b]? = some (.cells (msc x) 38 fr)) :
    (results fn tmps).run Tryz.prog w = .ok (.agg (msc x)) w := by
  have hp' : tmps[p]?.getD undef = .pointer (some ⟨b, 0, none⟩) := by simpa using hp
  have := run_loadVar_row (P := Tryz.prog) w b 38 38 (msc x) fr _ hb Tryz.underlying38 rfl (by rw [msc_size]; kernel_rfl)
  simp [results, h, hp', asAddr, this]
theorem results_ln1 {fn : Func} {p : Tmp} (h : fn.results = #[.cell p 36]) (tmps : Array Value) (w : World) (b : Nat) (l : List Int) (hl : l.length = 8) (fr : Nat × Nat)
    (hp : tmps.getD p undef = .pointer (some ⟨b, 0, none⟩)) (hb : w.heap[b]? = some (.cells (vs l) 36 fr)) :
    (results fn tmps).run Tryz.prog w = .ok (.agg (vs l)) w := by
  have hp' : tmps[p]?.getD undef = .pointer (some ⟨b, 0, none⟩) := by simpa using hp
  have := run_loadVar_row (P := Tryz.prog) w b 36 36 (vs l) fr _ hb Tryz.underlying36 rfl (by rw [vs_size, hl]; kernel_rfl)
  simp [results, h, hp', asAddr, this]
set_option maxRecDepth 20000 in
theorem gtold_any (kd : Int) (x : Slt) (w : World) : Calls Tryz.prog 199 #[.int .i64 kd, .agg (slc x)] w fun e w' => e = .returned (.agg (msc (toldM kd x false))) ∧ Chg [] w w' := by
  have hx8 := x.h
  have q : (x.st == 3) = true ∨ ((x.st == 3) = false ∧ (x.st == 9) = true) ∨ ((x.st == 3) = false ∧ (x.st == 9) = false) := by
    cases (x.st == 3) <;> cases (x.st == 9) <;> simp
  have yes : x.st = 3 ∨ x.st = 9 → toldM kd x false = ((ms4 kd x.li false false).putDi true).putL x.l x.h := by intro h; unfold toldM; rw [if_pos h]; rfl
  have no : (x.st == 3) = false → (x.st == 9) = false → toldM kd x false = ms4 kd x.li false false := by
    intro h1 h2
    unfold toldM
    rw [if_neg (by simp at h1 h2; omega)]
  rcases q with q1 | ⟨q1, q2⟩ | ⟨q1, q2⟩
  · rw [yes (.inl (by simpa using q1))]
    clear yes no
    go_enter Tryz.func199, Tryz.ntmps199
    try dsimp only [List.append]
    go_wp2_with fail
    go_region
    all_goals
      go_wp2_with fail
      refine bodyPost_ret (results_ms1 (by rfl) _ _ (w.heap.size + 1) _ (0, 0) (by rfl) (by simp (maxDischargeDepth := 8) [hx8]; try rfl)) (by rfl) ?_
      exact ⟨rfl, by (repeat' (first | with_reducible exact Chg.refl _ _ | with_reducible assumption | with_reducible refine Chg.drew ?_ | with_reducible refine Chg.drewN ?_ _ | with_reducible refine Chg.alloc ?_ _ | with_reducible refine Chg.putRow ?_ _ _ _ (.inr ?_) | with_reducible refine Chg.setCell ?_ _ _ _ (.inr ?_)  | (show _ ≤ _; first | exact Nat.le_refl _ | omega | (simp; done))))⟩
  · rw [yes (.inr (by simpa using q2))]
    clear yes no
    go_enter Tryz.func199, Tryz.ntmps199
    try dsimp only [List.append]
    go_wp2_with fail
    go_region
    all_goals
      go_wp2_with fail
      refine bodyPost_ret (results_ms1 (by rfl) _ _ (w.heap.size + 1) _ (0, 0) (by rfl) (by simp (maxDischargeDepth := 8) [hx8]; try rfl)) (by rfl) ?_
      exact ⟨rfl, by (repeat' (first | with_reducible exact Chg.refl _ _ | with_reducible assumption | with_reducible refine Chg.drew ?_ | with_reducible refine Chg.drewN ?_ _ | with_reducible refine Chg.alloc ?_ _ | with_reducible refine Chg.putRow ?_ _ _ _ (.inr ?_) | with_reducible refine Chg.setCell ?_ _ _ _ (.inr ?_)  | (show _ ≤ _; first | exact Nat.le_refl _ | omega | (simp; done))))⟩
  · rw [no q1 q2]
    clear yes no
    go_enter Tryz.func199, Tryz.ntmps199
    try dsimp only [List.append]
    go_wp2_with fail
    all_goals
      go_wp2_with fail
      refine bodyPost_ret (results_ms1 (by rfl) _ _ (w.heap.size + 1) _ (0, 0) (by rfl) (by simp; try rfl)) (by rfl) ?_
      exact ⟨rfl, by (repeat' (first | with_reducible exact Chg.refl _ _ | with_reducible assumption | with_reducible refine Chg.drew ?_ | with_reducible refine Chg.drewN ?_ _ | with_reducible refine Chg.alloc ?_ _ | with_reducible refine Chg.putRow ?_ _ _ _ (.inr ?_) | with_reducible refine Chg.setCell ?_ _ _ _ (.inr ?_)  | (show _ ≤ _; first | exact Nat.le_refl _ | omega | (simp; done))))⟩

/-- What is told, in memory of its own. -/
def Told (w w' : World) (A : Option Addr) (ms : List Ms) : Prop := Sl w' 12 A ms.length (cat Ms.enc ms) ∧ ∀ x, A = some x → w.heap.size ≤ x.block
theorem Told.nil (w w' : World) : Told w w' none [] := ⟨⟨rfl, .inl rfl⟩, by simp⟩
theorem Told.keep {w w' w'' : World} {A : Option Addr} {ms : List Ms} {l : List Nat} (h : Told w w' A ms) (hc : Chg l w' w'') (hl : ∀ x ∈ l, x < w.heap.size) : Told w w'' A ms :=
  ⟨h.1.chg hc (by intro a ha hm; have := h.2 a ha; have := hl _ hm; omega), h.2⟩
theorem Told.from {w0 w w' : World} {A : Option Addr} {ms : List Ms} (h : Told w w' A ms) (hs : w0.heap.size ≤ w.heap.size) : Told w0 w' A ms := ⟨h.1, fun x hx => Nat.le_trans hs (h.2 x hx)⟩
theorem Told.one (w : World) (m : Ms) : Told w (w.alloc (.cells (msc m) 38)) (some ⟨w.heap.size, 0, none⟩) [m] :=
  ⟨⟨by rw [cat_length Ms.len], .inr ⟨w.heap.size, 0, msc m, 38, (0, 0), rfl, by simp, by rw [cat_one]; simp [msc, Ms.len, List.take_of_length_le]⟩⟩, by rintro x hx; cases hx; exact Nat.le_refl _⟩
def MsTo (w : World) (ms : List Ms) : Ending → World → Prop := fun e w' => ∃ A n, e = .returned (.slice A ms.length n) ∧ Told w w' A ms ∧ Chg [] w w'
theorem MsTo.nil {w w' : World} (h : Chg [] w w') : MsTo w [] (.returned (.slice none 0 0)) w' := ⟨none, 0, rfl, Told.nil _ _, h⟩
theorem MsTo.one {w w1 : World} (h : Chg [] w w1) (m : Ms) : MsTo w [m] (.returned (.slice (some ⟨w1.heap.size, 0, none⟩) 1 1)) (w1.alloc (.cells (msc m) 38)) :=
  ⟨_, 1, rfl, (Told.one w1 m).from h.size, h.alloc _⟩
theorem MsTo.at {w w1 : World} {n : Nat} (h : Chg [] w w1) (m : Ms) (hn : n = w1.heap.size) : MsTo w [m] (.returned (.slice (some ⟨n, 0, none⟩) 1 1)) (w1.alloc (.cells (msc m) 38)) := hn ▸ MsTo.one h m
theorem gwords_any (m : Ms) (x : Slt) (nx : Int) (w : World) : Calls Tryz.prog 151 #[.agg (msc m), .agg (slc x), .int .i64 nx] w fun e w' => e = .returned (.agg (vs (wordsL m x nx))) ∧ Chg [] w w' := by
  have hx8 := x.h
  have hm8 := m.h
  have q : ((nx == 5) = true ∨ ((nx == 5) = false ∧ (nx == 8) = true)) ∨ ((nx == 5) = false ∧ (nx == 8) = false) := by
    cases (nx == 5) <;> cases (nx == 8) <;> simp
  rcases q with q | ⟨q1, q2⟩
  · have e1 : wordsL m x nx = zl8 := by
      unfold wordsL
      rw [if_pos (by rcases q with h | ⟨_, h⟩; exact .inl (by simpa using h); exact .inr (by simpa using h))]
    rw [e1]
    clear e1
    rcases q with q1 | ⟨q1, q2⟩
    all_goals
      go_enter Tryz.func151, Tryz.ntmps151
      try dsimp only [List.append]
      go_wp2_with fail
      refine bodyPost_ret (results_ln1 (by rfl) _ _ (w.heap.size + 2) (zl8) rfl (0, 0) (by rfl) (by simp (maxDischargeDepth := 8) [zl8]; try rfl)) (by rfl) ?_
      exact ⟨rfl, by (repeat' (first | with_reducible exact Chg.refl _ _ | with_reducible assumption | with_reducible refine Chg.drew ?_ | with_reducible refine Chg.drewN ?_ _ | with_reducible refine Chg.alloc ?_ _ | with_reducible refine Chg.putRow ?_ _ _ _ (.inr ?_) | with_reducible refine Chg.setCell ?_ _ _ _ (.inr ?_)  | (show _ ≤ _; first | exact Nat.le_refl _ | omega | (simp; done))))⟩
  · have hn : ¬ (nx = 5 ∨ nx = 8) := by simp at q1 q2; omega
    cases q3 : (m.kd == 13)
    · rw [show wordsL m x nx = m.l by unfold wordsL; rw [if_neg hn, if_neg (by simpa using q3)]]
      clear hn
      go_enter Tryz.func151, Tryz.ntmps151
      try dsimp only [List.append]
      go_wp2_with fail
      refine bodyPost_ret (results_ln1 (by rfl) _ _ (w.heap.size + 2) (m.l) m.h (0, 0) (by rfl) (by simp (maxDischargeDepth := 8); try rfl)) (by rfl) ?_
      exact ⟨rfl, by (repeat' (first | with_reducible exact Chg.refl _ _ | with_reducible assumption | with_reducible refine Chg.drew ?_ | with_reducible refine Chg.drewN ?_ _ | with_reducible refine Chg.alloc ?_ _ | with_reducible refine Chg.putRow ?_ _ _ _ (.inr ?_) | with_reducible refine Chg.setCell ?_ _ _ _ (.inr ?_)  | (show _ ≤ _; first | exact Nat.le_refl _ | omega | (simp; done))))⟩
    · rw [show wordsL m x nx = x.l by unfold wordsL; rw [if_neg hn, if_pos (by simpa using q3)]]
      clear hn
      go_enter Tryz.func151, Tryz.ntmps151
      try dsimp only [List.append]
      go_wp2_with fail
      refine bodyPost_ret (results_ln1 (by rfl) _ _ (w.heap.size + 2) (x.l) x.h (0, 0) (by rfl) (by simp (maxDischargeDepth := 8); try rfl)) (by rfl) ?_
      exact ⟨rfl, by (repeat' (first | with_reducible exact Chg.refl _ _ | with_reducible assumption | with_reducible refine Chg.drew ?_ | with_reducible refine Chg.drewN ?_ _ | with_reducible refine Chg.alloc ?_ _ | with_reducible refine Chg.putRow ?_ _ _ _ (.inr ?_) | with_reducible refine Chg.setCell ?_ _ _ _ (.inr ?_)  | (show _ ≤ _; first | exact Nat.le_refl _ | omega | (simp; done))))⟩

theorem told_ke (kd : Int) (x : Slt) (b : Bool) : (toldM kd x false).putKe b = toldM kd x b := by
  unfold toldM
  split <;> rfl
theorem ganswers_any (kd : Int) (x : Slt) (nx : Int) (w : World) : Calls Tryz.prog 152 #[.int .i64 kd, .agg (slc x), .int .i64 nx] w (MsTo w (answersL kd x nx)) := by
  have hx8 := x.h
  have rX : (w.alloc (.cells (slc x) 54 (0, 0))).heap[w.heap.size]? = some (.cells (slc x) 54 (0, 0)) := by simp
  cases q1 : (kd == 12)
  · cases q2 : (kd == 13)
    · rw [show answersL kd x nx = [] by unfold answersL; rw [if_neg (by simpa using q1), if_neg (by simpa using q2)]]
      go_enter Tryz.func152, Tryz.ntmps152
      try dsimp only [List.append]
      go_wp2_with fail
      go_ret
      exact MsTo.nil (by (repeat' (first | with_reducible exact Chg.refl _ _ | with_reducible assumption | with_reducible refine Chg.drew ?_ | with_reducible refine Chg.drewN ?_ _ | with_reducible refine Chg.alloc ?_ _ | with_reducible refine Chg.putRow ?_ _ _ _ (.inr ?_) | with_reducible refine Chg.setCell ?_ _ _ _ (.inr ?_)  | (show _ ≤ _; first | exact Nat.le_refl _ | omega | (simp; done)))))
    · rw [show answersL kd x nx = [(toldM 7 x false).putKe (nx == 1)] by unfold answersL; rw [if_neg (by simpa using q1), if_pos (by simpa using q2), told_ke]]
      go_enter Tryz.func152, Tryz.ntmps152
      try dsimp only [List.append]
      go_wp2_with fail
      refine (gtold_any 7 x _).mono ?_
      rintro e w2 ⟨rfl, c2⟩
      have C2 : Chg [] w w2 := ((Chg.refl [] w).alloc _).trans c2
      go_wp2_with fail
      go_ret
      exact MsTo.at (C2.alloc (.cells (msc ((toldM 7 x false).putKe (nx == 1))) 38)) _ (by simp)
  · rw [show answersL kd x nx = [toldM 6 x false] by unfold answersL; rw [if_pos (by simpa using q1)]]
    go_enter Tryz.func152, Tryz.ntmps152
    try dsimp only [List.append]
    go_wp2_with fail
    refine (gtold_any 6 x _).mono ?_
    rintro e w2 ⟨rfl, c2⟩
    have C2 : Chg [] w w2 := ((Chg.refl [] w).alloc _).trans c2
    go_wp2_with fail
    go_ret
    exact MsTo.one C2 _
end Go.Proofs.YtadeoflkppiflaaGreatDoor
end
section
namespace Go.Proofs.YtadeoflkppiflaaGreatDoor
open Go.RowKit
set_option linter.unusedVariables false
set_option maxHeartbeats 1000000
attribute [local go_sem ↓] append_appS copy_copS clear_clrS make_mkS cell_row frozen_row loadLine storeLine loadSlot storeSlot heap_drew heap_drewN heap_alloc heap_past heap_setCell heap_putRow vs_get slc_st slc_li slc_us slice_slS loadMsg storeMsg loadHas storeHas msc_kd msc_li msc_di msc_ke
attribute [local go_sem] rowCell_some rowFrozen_some rowHas_some rowIn_some rowPart_full rowPart_lit rowPut_full rowPut_lit rowSet_some size_putRow vs_size vs_one wideLine wideSlot run_loadS run_storeS run_appS run_copS run_clrS run_mkS loadW_at storeW_at fit_all fit_le one_int one_bool one_pointer one_slice allOne_list putRow_new ne_size1 ne_size2 ne_size3 ne_size4 zero8_length lines_nil line_eq lit8 slc_size slc_one slc_part slc_in fold_slt fold_slc slc_set_us wideMsg wideHas run_slS msc_size msc_one msc_part msc_in fold_msc msc_putDi msc_putKe msc_putX msc_has ms4_lit ms4_k ms4_l ms4_e
attribute [local simp ↓] heap_drew heap_drewN heap_alloc heap_past heap_setCell heap_putRow
attribute [local simp] rowCell_some rowFrozen_some rowHas_some rowIn_some rowPart_full rowPart_lit rowPut_full rowPut_lit rowSet_some size_putRow vs_size fit_all putRow_new ne_size1 ne_size2 ne_size3 ne_size4 zero8_length slc_size msc_size msc_putDi msc_putKe msc_putX msc_has fit_le ms4_k ms4_l ms4_e


/-! ### An agent whose memory is all new to the world W -/
def Agt (W w : World) (g a b S N : Nat) (s : Sta) : Prop :=
  ASys W w a b S N s.1 s.2 ∧ w.heap[g]? = some (.cells #[.pointer (some ⟨a, 0, none⟩)] 206 (0, 0)) ∧ W.heap.size ≤ g ∧ g ∉ [a, b] ∧ Sane s.1 ∧ 0 ≤ s.2
section
variable {W w w' : World} {g a b S N : Nat} {s s' : Sta} (h : Agt W w g a b S N s)
include h
theorem Agt.keep (hc : Chg [] w w') : Agt W w' g a b S N s := ⟨h.1.keep hc, hc.keep h.2.1 (by simp), h.2.2⟩
theorem Agt.arr : Arr w a b S N s.1 s.2 := h.1.2.1
theorem Agt.good : Good S N s.1 := h.1.good
theorem Agt.sane : Sane s.1 := h.2.2.2.2.1
theorem Agt.pos : 0 ≤ s.2 := h.2.2.2.2.2
theorem Agt.new3 {k : Nat} (hk : w.heap.size ≤ k) : k ∉ [g, a, b] := by
  have h1 := h.1.new2 hk
  have h2 := lt_heap h.2.1
  simp at h1 ⊢
  omega
theorem Agt.new2 {k : Nat} (hk : w.heap.size ≤ k) : k ∉ [a, b] := h.1.new2 hk
theorem Agt.apart {k : Nat} (hc : Chg [k] w w') (hk : k ∉ [g, a, b]) (hw : W.heap.size ≤ k) : Agt W w' g a b S N s := by
  have h1 : g ∉ [k] ∧ a ∉ [k] ∧ b ∉ [k] := by simp at hk ⊢; omega
  exact ⟨⟨h.1.1.trans' hc (by simp [hw]), h.1.2.1.keep hc h1.2.1 h1.2.2, h.1.2.2⟩, hc.keep h.2.1 h1.1, h.2.2⟩
theorem Agt.old2 : ∀ x ∈ [a, b], x < w.heap.size := by
  have h1 := lt_heap h.arr.1
  have h2 := lt_heap h.arr.2.1
  intro x hx
  simp at hx
  rcases hx with rfl | rfl <;> assumption
theorem Agt.step (hs : ASys W w' a b S N s'.1 s'.2) (hc : Chg [a, b] w w') (h1 : Sane s'.1) (h2 : 0 ≤ s'.2) : Agt W w' g a b S N s' :=
  ⟨hs, hc.keep h.2.1 h.2.2.2.1, h.2.2.1, h.2.2.2.1, h1, h2⟩
end
/-- Behind a call that tells messages among its values. -/
def AgRet (W w : World) (g a b S N : Nat) (s : Sta) (f : Value → Value) (ms : List Ms) : Ending → World → Prop := fun e w' =>
  ∃ A n, e = .returned (f (.slice A ms.length n)) ∧ Told w w' A ms ∧ Agt W w' g a b S N s ∧ Chg [a, b] w w'
/-- Behind a call of the array's. -/
theorem Agt.calls {W w : World} {g a b S N : Nat} {s s' : Sta} (h : Agt W w g a b S N s) {v : Value} {f : FuncId} {args : Array Value} (h1 : Sane s'.1) (h2 : 0 ≤ s'.2)
    (hc : Calls Tryz.prog f args w (ASysTo W w a b S N s'.1 s'.2 v)) : Calls Tryz.prog f args w fun e w' => e = .returned v ∧ Agt W w' g a b S N s' ∧ Chg [a, b] w w' :=
  hc.mono fun e w' ⟨he, hs, hc⟩ => ⟨he, h.step hs hc h1 h2, hc⟩
section
variable {W w : World} {g a b S N : Nat} {s : Sta} (h : Agt W w g a b S N s)
include h
theorem gset_any (hu : s.2 ≤ 1000000000) (li st : Int) (l : List Int) (hl : l.length = 8) : Calls Tryz.prog 140 #[.pointer (some ⟨a, 0, none⟩), .int .i64 li, .int .i64 st, .agg (vs l)] w
    fun e w' => e = .returned (.int .i64 (setVal S N s.1 li st)) ∧ Agt W w' g a b S N (setS S N s li st l hl) ∧ Chg [a, b] w w' :=
  h.calls (h.sane.set li st l hl) (Int.le_trans h.pos setS_u.1) (sys_set h.1 h.pos hu li st l hl)
theorem gsetz_any (hu : s.2 ≤ 1000000000) (li st : Int) : Calls Tryz.prog 140 #[.pointer (some ⟨a, 0, none⟩), .int .i64 li, .int .i64 st, .agg #[.int .u64 0, .int .u64 0, .int .u64 0, .int .u64 0, .int .u64 0, .int .u64 0, .int .u64 0, .int .u64 0]] w
    fun e w' => e = .returned (.int .i64 (setVal S N s.1 li st)) ∧ Agt W w' g a b S N (setS S N s li st zl8 rfl) ∧ Chg [a, b] w w' := gset_any h hu li st zl8 rfl
theorem gtouch_any (hu : s.2 ≤ 1000000000) (li : Int) : Calls Tryz.prog 132 #[.pointer (some ⟨a, 0, none⟩), .int .i64 li] w
    fun e w' => e = .returned (.tuple #[]) ∧ Agt W w' g a b S N (touchS s li) ∧ Chg [a, b] w w' :=
  h.calls (h.sane.touch li) (Int.le_trans h.pos touchS_u.1) (sys_touch h.1 h.pos hu li)
theorem gdrop_any (li : Int) : Calls Tryz.prog 150 #[.pointer (some ⟨a, 0, none⟩), .int .i64 li] w
    fun e w' => e = .returned (.bool (dropVal s.1 li)) ∧ Agt W w' g a b S N (dropS s li) ∧ Chg [a, b] w w' :=
  h.calls (h.sane.drop li) (Int.le_trans h.pos dropS_u.1) (sys_drop h.1 li)
theorem gfind_any (li : Int) : Calls Tryz.prog 130 #[.pointer (some ⟨a, 0, none⟩), .int .i64 li] w
    fun e w' => e = .returned (.tuple #[.agg (slc (findVal s.1 li)), .bool (dropVal s.1 li)]) ∧ Chg [] w w' := afind_any a b S N s.1 s.2 li w h.arr
theorem groom_any (li : Int) : Calls Tryz.prog 198 #[.pointer (some ⟨a, 0, none⟩), .int .i64 li] w
    fun e w' => e = .returned (.tuple #[.bool (roomFree S N s.1 li), .int .i64 (roomVic S N s.1 li)]) ∧ Chg [] w w' := aroom_any a b S N s.1 s.2 li w h.arr
end
theorem gslots_any {W : World} {g a b S N : Nat} {s : Sta}  (w : World) (h : Agt W w g a b S N s) : Calls Tryz.prog 75 #[.pointer (some ⟨g, 0, none⟩)] w (SlotsTold w (live s.1)) := by
  have H := Lib.hid h
  have rG := h.2.1
  clear h
  go_enter Tryz.func75, Tryz.ntmps75
  try dsimp only [List.append]
  go_wp2_with fail
  refine (aslots_ok a b S N s.1 s.2 w H.out.arr).mono ?_
  rintro e w2 ⟨A, c, rfl, hs, c2⟩
  have HS := Lib.hid hs
  have HC := Lib.hid c2
  clear hs c2
  go_wp2_with fail
  go_ret
  exact ⟨A, c, rfl, HS.out, HC.out⟩
theorem gowns_any {W : World} {g a b S N : Nat} {s : Sta} (li : Int) (w : World) (h : Agt W w g a b S N s) : Calls Tryz.prog 103 #[.pointer (some ⟨g, 0, none⟩), .int .i64 li] w fun e w' => e = .returned (.bool (ownsB s.1 li)) ∧ Chg [] w w' := by
  have H := Lib.hid h
  have rG := h.2.1
  clear h
  go_enter Tryz.func103, Tryz.ntmps103
  try dsimp only [List.append]
  go_wp2_with fail
  refine (gfind_any H.out li).mono ?_
  rintro e w2 ⟨rfl, c2⟩
  go_wp2_with (go_at_call 139; refine (gwrite_any _ _).mono ?_; rintro e w' ⟨rfl, rfl⟩)
  go_ret
  exact ⟨rfl, by (repeat' (first | with_reducible exact Chg.refl _ _ | with_reducible assumption | with_reducible refine Chg.drew ?_ | with_reducible refine Chg.drewN ?_ _ | with_reducible refine Chg.alloc ?_ _ | with_reducible refine Chg.putRow ?_ _ _ _ (.inr ?_) | with_reducible refine Chg.setCell ?_ _ _ _ (.inr ?_)  | with_reducible refine Chg.trans ?_ c2 | with_reducible refine Chg.trans (b := World.drew _) ?_ c2 | (show _ ≤ _; first | exact Nat.le_refl _ | omega | (simp; done))))⟩

theorem slt_whole {w wr : World} {l : List Nat} {n b o k : Nat} {ys : List Slt} {y : Slt} (h : Sl w 11 (some ⟨b, o, none⟩) n (cat Slt.enc ys)) (hc : Chg l w wr) (hb : b ∉ l) (hk : k < n) (hy : ys[k]? = some y) :
    ∃ c t f, wr.heap[b]? = some (.cells c t f) ∧ rowIn (some (.cells c t f)) (o + k * 11) 11 = true ∧ rowPart (some (.cells c t f)) (o + k * 11) 11 = slc y := by
  obtain ⟨cs, t, f, hb, _, hpa⟩ := (h.chg hc (by simpa using hb)).elem (by omega) hk (cat_part Slt.len hy)
  obtain ⟨r1, r2⟩ := hpa 0 11 (by omega)
  rw [Nat.add_zero] at r1 r2
  refine ⟨cs, t, f, hb, r1, ?_⟩
  rw [r2]
  simp [slc, Slt.len, List.take_of_length_le]
theorem idle_live (xs : List Slt) : idleB xs = (live xs).all (fun x => atRest x.st) := by
  unfold idleB live
  rw [List.all_filter]
  congr 1
  funext x
  unfold restB
  cases h : (x.st == 0) <;> simp [bne, h]
theorem gidle_any {W : World} {g a b S N : Nat} {s : Sta}  (w : World) (h : Agt W w g a b S N s) : Calls Tryz.prog 133 #[.pointer (some ⟨g, 0, none⟩)] w fun e w' => e = .returned (.bool (idleB s.1)) ∧ Chg [] w w' := by
  have H := Lib.hid h
  have rG := h.2.1
  clear h
  have hsl := gslots_any w H.out
  rw [idle_live]
  obtain ⟨ys, hys⟩ : ∃ ys, ys = live s.1 := ⟨_, rfl⟩
  rw [← hys] at hsl ⊢
  go_enter Tryz.func133, Tryz.ntmps133
  try dsimp only [List.append]
  go_wp2_with fail
  refine hsl.mono ?_
  rintro e w2 ⟨A, cp, rfl, hs, c2⟩
  have hl : ys.length ≤ 64 := by rw [hys]; exact Nat.le_trans (live_le _) H.out.good.len64
  have HS := Lib.hid hs
  have HC := Lib.hid c2
  obtain ⟨n, hn⟩ : ∃ n, n = ys.length := ⟨_, rfl⟩
  rw [← hn] at HS hl ⊢
  have HN := Lib.hid hn
  clear hs c2 hys rG hn hsl
  go_wp2_with fail
  go_loopw [8] (fun i wr => ∃ k : Nat, k ≤ n ∧ i = .int .i64 k ∧ Chg [] w2 wr ∧ ∀ x ∈ ys.take k, atRest x.st = true) (fun i _ => n - (intOf i).toNat)
  case atStart => exact ⟨0, by omega, rfl, Chg.refl _ _, by simp⟩
  case round =>
    obtain ⟨k, hk, rfl, hc, hall⟩ := hrel
    by_cases hlt : k < n
    · obtain ⟨b1, o1, rfl⟩ := HS.out.addr (by omega)
      obtain ⟨y, hy⟩ : ∃ y, ys[k]? = some y := ⟨ys[k]'(by rw [← HN.out]; exact hlt), List.getElem?_eq_getElem _⟩
      obtain ⟨cs, tt, f, hb, i1, i2⟩ := slt_whole HS.out hc (by simp) hlt hy
      have g1 : (k : Int) < (n : Int) := by omega
      have g0 : (0 : Int) ≤ (k : Int) := by omega
      have g2 : (n : Int) ≤ 64 := by omega
      have HA := Lib.hid hall
      have HK := Lib.hid hc
      have ht := List.take_succ_eq_append_getElem (by rw [← HN.out]; exact hlt : k < ys.length)
      rw [show ys[k]'(by rw [← HN.out]; exact hlt) = y from (List.getElem?_eq_some_iff.1 hy).2] at ht
      have HT := Lib.hid ht
      have HY := Lib.hid hy
      clear hall hc ht hy
      cases hr : atRest y.st
      · go_wp2_with (go_at_call 196; refine (grest_at _ _ hr _).mono ?_; rintro e w' ⟨rfl, rfl⟩)
        go_ret
        refine ⟨?_, (HC.out.trans HK.out).alloc _⟩
        have : ys.all (fun x => atRest x.st) = false := by
          rw [List.all_eq_false]
          exact ⟨y, List.mem_of_getElem? HY.out, by simp [hr]⟩
        rw [this]
        rfl
      · go_wp2_with (go_at_call 196; refine (grest_at _ _ hr _).mono ?_; rintro e w' ⟨rfl, rfl⟩)
        go_roundw
        case rel =>
          refine ⟨k + 1, by omega, by go_num, HK.out.alloc _, ?_⟩
          rw [HT.out]
          intro x hx
          rcases List.mem_append.1 hx with h1 | h1
          · exact HA.out x h1
          · rw [List.mem_singleton.1 h1]; exact hr
        case measure => simp [intOf]; omega
    · obtain rfl : k = n := by omega
      have HA := Lib.hid hall
      have HK := Lib.hid hc
      clear hall hc
      go_wp2_with fail
      go_ret
      refine ⟨?_, HC.out.trans HK.out⟩
      have : ys.all (fun x => atRest x.st) = true := by
        rw [List.all_eq_true]
        intro x hx
        exact HA.out x (by rw [HN.out, List.take_length]; exact hx)
      rw [this]
      rfl
theorem gidle_at {W : World} {g a b S N : Nat} {s : Sta} (v : Bool) (hv : idleB s.1 = v) (w : World) (h : Agt W w g a b S N s) : Calls Tryz.prog 133 #[.pointer (some ⟨g, 0, none⟩)] w fun e w' => e = .returned (.bool v) ∧ Chg [] w w' := hv ▸ gidle_any w h
theorem gowns_at {W : World} {g a b S N : Nat} {s : Sta} (li : Int) (v : Bool) (hv : ownsB s.1 li = v) (w : World) (h : Agt W w g a b S N s) : Calls Tryz.prog 103 #[.pointer (some ⟨g, 0, none⟩), .int .i64 li] w fun e w' => e = .returned (.bool v) ∧ Chg [] w w' := hv ▸ gowns_any li w h
end Go.Proofs.YtadeoflkppiflaaGreatDoor
end
section
namespace Go.Proofs.YtadeoflkppiflaaGreatDoor
open Go.RowKit
set_option linter.unusedVariables false
set_option maxHeartbeats 1000000
attribute [local go_sem ↓] append_appS copy_copS clear_clrS make_mkS cell_row frozen_row loadLine storeLine loadSlot storeSlot heap_drew heap_drewN heap_alloc heap_past heap_setCell heap_putRow vs_get slc_st slc_li slc_us slice_slS loadMsg storeMsg loadHas storeHas msc_kd msc_li msc_di msc_ke
attribute [local go_sem] rowCell_some rowFrozen_some rowHas_some rowIn_some rowPart_full rowPart_lit rowPut_full rowPut_lit rowSet_some size_putRow vs_size vs_one wideLine wideSlot run_loadS run_storeS run_appS run_copS run_clrS run_mkS loadW_at storeW_at fit_all fit_le one_int one_bool one_pointer one_slice allOne_list putRow_new ne_size1 ne_size2 ne_size3 ne_size4 zero8_length lines_nil line_eq lit8 slc_size slc_one slc_part slc_in fold_slt fold_slc slc_set_us wideMsg wideHas run_slS msc_size msc_one msc_part msc_in fold_msc msc_putDi msc_putKe msc_putX msc_has ms4_lit ms4_k ms4_l ms4_e
attribute [local simp ↓] heap_drew heap_drewN heap_alloc heap_past heap_setCell heap_putRow
attribute [local simp] rowCell_some rowFrozen_some rowHas_some rowIn_some rowPart_full rowPart_lit rowPut_full rowPut_lit rowSet_some size_putRow vs_size fit_all putRow_new ne_size1 ne_size2 ne_size3 ne_size4 zero8_length slc_size msc_size msc_putDi msc_putKe msc_putX msc_has fit_le ms4_k ms4_l ms4_e


section
variable {W w w1 : World} {g a b S N : Nat} {s : Sta} {f : Value → Value}
theorem AgRet.one (h : Agt W w1 g a b S N s) (hc : Chg [a, b] w w1) (m : Ms) : AgRet W w g a b S N s f [m] (.returned (f (.slice (some ⟨w1.heap.size, 0, none⟩) 1 1))) (w1.alloc (.cells (msc m) 38)) :=
  ⟨_, 1, rfl, (Told.one w1 m).from hc.size, h.keep ((Chg.refl [] w1).alloc _), hc.alloc _⟩
theorem AgRet.nil (h : Agt W w1 g a b S N s) (hc : Chg [a, b] w w1) : AgRet W w g a b S N s f [] (.returned (f (.slice none 0 0))) w1 :=
  ⟨none, 0, rfl, Told.nil _ _, h, hc⟩
theorem weak2 (h : Chg [] w w1) : Chg [a, b] w w1 := h.mono (by simp)
end
theorem out_yes {S N : Nat} {s : Sta} {li : Int} (h : atRest (findVal s.1 li).st = true) : outF S N s li = (setS S N s li (outNx (findVal s.1 li).st) (findVal s.1 li).l (findVal s.1 li).h, [toldM 3 (findVal s.1 li) false]) := by unfold outF; rw [if_pos h]
theorem out_no {S N : Nat} {s : Sta} {li : Int} (h : atRest (findVal s.1 li).st = false) : outF S N s li = (s, []) := by unfold outF; rw [if_neg (by simp [h])]
theorem gout_any {W : World} {g a b S N : Nat} {s : Sta} (li : Int) (w : World) (h : Agt W w g a b S N s) (hu : s.2 ≤ 1000000000) : Calls Tryz.prog 138 #[.pointer (some ⟨g, 0, none⟩), .int .i64 li] w (AgRet W w g a b S N (outF S N s li).1 (fun v => v) (outF S N s li).2) := by
  have H := Lib.hid h
  have rG := h.2.1
  have CW := Lib.hid (Chg.refl [a, b] w)
  clear h
  have hf := gfind_any H.out li
  cases hr : atRest (findVal s.1 li).st
  · rw [out_no hr]
    generalize findVal s.1 li = x at hf hr
    go_enter Tryz.func138, Tryz.ntmps138
    try dsimp only [List.append]
    go_wp2_with fail
    refine hf.mono ?_
    clear hf
    rintro e w2 ⟨rfl, c2⟩
    go_wp2_with (go_at_call 196; refine (grest_at _ _ hr _).mono ?_; rintro e w' ⟨rfl, rfl⟩)
    go_ret
    exact AgRet.nil (f := fun v => v) (H.out.keep (c2.alloc _)) (weak2 (c2.alloc _))
  · rw [out_yes hr]
    generalize findVal s.1 li = x at hf hr
    have hx8 := x.h
    have q : ((x.st == 3) = true ∧ outNx x.st = 9) ∨ ((x.st == 3) = false ∧ outNx x.st = 7) := by
      unfold outNx
      cases h3 : (x.st == 3)
      · exact .inr ⟨rfl, by rw [if_neg (by simpa using h3)]⟩
      · exact .inl ⟨rfl, by rw [if_pos (by simpa using h3)]⟩
    rcases q with ⟨q1, q2⟩ | ⟨q1, q2⟩
    all_goals
      rw [q2]
      clear q2
      go_enter Tryz.func138, Tryz.ntmps138
      try dsimp only [List.append]
      go_wp2_with fail
      refine hf.mono ?_
      clear hf
      rintro e w2 ⟨rfl, c2⟩
      replace H := Lib.hid (H.out.keep c2)
      replace CW := Lib.hid (CW.out.trans (weak2 c2))
      clear c2
      have rG := H.out.2.1
      go_wp2_with fail
      have cb := (Chg.refl [] w2).alloc (.cells (slc x) 54 (0, 0))
      have rX : (w2.alloc (.cells (slc x) 54 (0, 0))).heap[w2.heap.size]? = some (.cells (slc x) 54 (0, 0)) := by simp
      have nX := H.out.new2 (k := w2.heap.size) (Nat.le_refl _)
      have mX := H.out.new3 (k := w2.heap.size) (Nat.le_refl _)
      have vX := H.out.1.1.size
      have uXx := CW.out.size
      replace H := Lib.hid (H.out.keep cb)
      replace CW := Lib.hid (CW.out.trans (weak2 cb))
      clear cb
      generalize w2.heap.size = pX at rX nX mX vX uXx ⊢
      generalize w2.alloc (.cells (slc x) 54 (0, 0)) = w3 at rX H CW ⊢
      have rG := H.out.2.1
      have oX := old rX
      refine (grest_at _ _ hr _).mono ?_
      rintro e w' ⟨rfl, rfl⟩
      go_wp2_with fail
      have nG := H.out.2.2.2.1
      go_region_held3 (fun w' => w'.heap[g]? = some (.cells #[.pointer (some ⟨a, 0, none⟩)] 206 (0, 0)) ∧ w'.heap[pX]? = some (.cells (slc x) 54 (0, 0))) (first | exact ⟨rG, rX⟩ | exact ⟨c4.keep rG nG, c4.keep rX nX⟩)
        (first
          | (go_at_call 140; refine (gset_any (H.out.keep (Chg.drew (Chg.refl [] w3))) hu li _ x.l x.h).mono ?_; rintro e w4 ⟨rfl, h4, c4⟩))
      all_goals
        replace H := Lib.hid h4
        replace CW := Lib.hid (CW.out.trans (Chg.trans (Chg.drew (Chg.refl [a, b] w3)) c4))
        replace rX := c4.keep rX nX
        clear h4 c4 rG
        have rG := H.out.2.1
        go_wp2_with fail
        refine (gtold_any 3 x _).mono ?_
        rintro e w5 ⟨rfl, c5⟩
        go_wp2_with fail
        go_ret
        exact AgRet.one (f := fun v => v) (H.out.keep c5) (CW.out.trans (weak2 c5)) _
end Go.Proofs.YtadeoflkppiflaaGreatDoor
end
