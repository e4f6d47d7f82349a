/- A queue and the document's own one side by side: what each call does to both. No condition. -/
import Derived.Test.YtaignekkhfjicaaWpqf
namespace Go.Proofs.Ytaignekkhfjicaa
open Go.RowKit
set_option linter.unusedVariables false
attribute [local go_sem ↓] append_appS copy_copS clear_clrS make_mkS cell_row frozen_row loadLine storeLine loadEnt storeEnt loadREnt storeREnt loadQStep storeQStep heap_drew heap_drewN heap_alloc heap_past heap_setCell heap_putRow vs_get entc_pos
attribute [local go_sem] rowCell_some rowFrozen_some rowHas_some rowIn_some rowPart_full rowPart_lit rowPut_full rowPut_lit rowSet_some size_putRow vs_size vs_one wideLine wideEnt wideREnt wideQStep run_loadS run_storeS run_appS run_copS run_clrS run_mkS loadW_at storeW_at fit_all fit_le one_int one_bool one_pointer one_slice allOne_list putRow_new ne_size1 ne_size2 ne_size3 ne_size4 zero8_length lines_nil line_eq lit8 entc_size entc_one entc_part entc_in entc_made fold_ent fold_entc fold_vs vs_set
attribute [local simp ↓] heap_drew heap_drewN heap_alloc heap_past heap_setCell heap_putRow
attribute [local simp] rowCell_some rowFrozen_some rowHas_some rowIn_some rowPart_full rowPart_lit rowPut_full rowPut_lit rowSet_some size_putRow vs_size fit_all putRow_new ne_size1 ne_size2 ne_size3 ne_size4 zero8_length entc_size


/-! ### What the calls answer, and leave -/
def pushVal (n room : Nat) (es : List Ent) (li : Int) : Int := if 0 ≤ li ∧ li < n then (if room ≤ es.length then 13 else 0) else 12
def pushEs (n room : Nat) (es : List Ent) (li : Int) (l : List Int) (h : l.length = 8) : List Ent := if 0 ≤ li ∧ li < n then (if room ≤ es.length then es else es ++ [⟨li.toNat, l, h⟩]) else es
def readVal (n : Nat) (li : Int) : Int := if 0 ≤ li ∧ li < n then 0 else 12
def readLn (n : Nat) (X : List Int) (li : Int) : List Int := if 0 ≤ li ∧ li < n then ln X li.toNat else zero8
theorem readLn_length {n : Nat} {X : List Int} (li : Int) (hX : X.length = n * 8) : (readLn n X li).length = 8 := by
  unfold readLn
  split
  · exact ln_length _ _ (fit_line hX (by omega))
  · rfl
/-- The place of the first entry of a line, or behind them all. -/
def firstAt (es : List Ent) (li : Int) : Nat := es.findIdx (fun e => (e.pos : Int) == li)
def drainVal (es : List Ent) (li : Int) : Int := if firstAt es li < es.length then 0 else 14
def drainEs (es : List Ent) (li : Int) : List Ent := es.eraseIdx (firstAt es li)
def drainXs (xs : List Int) (es : List Ent) (li : Int) : List Int := match es[firstAt es li]? with | some e => lnPut xs e.pos e.l | none => xs
theorem first_some {es : List Ent} {li : Int} (h : firstAt es li < es.length) : ∃ e, es[firstAt es li]? = some e ∧ (e.pos : Int) = li ∧ ∀ x ∈ es.take (firstAt es li), (x.pos : Int) ≠ li := by
  refine ⟨es[firstAt es li], List.getElem?_eq_getElem h, ?_, ?_⟩
  · have := List.findIdx_getElem (p := fun e : Ent => (e.pos : Int) == li) (xs := es) (w := h)
    simp only [beq_iff_eq] at this
    exact this
  · intro x hx
    obtain ⟨i, hi, rfl⟩ := List.getElem_of_mem hx
    rw [List.getElem_take]
    have h1 : i < es.findIdx (fun e : Ent => (e.pos : Int) == li) := by rw [List.length_take] at hi; unfold firstAt at hi; omega
    have := List.not_of_lt_findIdx h1
    simpa using this
theorem first_none {es : List Ent} {li : Int} (h : ¬ firstAt es li < es.length) : ∀ e ∈ es, (e.pos : Int) ≠ li := by
  have h1 : es.findIdx (fun e : Ent => (e.pos : Int) == li) = es.length := Nat.le_antisymm List.findIdx_le_length (by unfold firstAt at h; omega)
  have := List.findIdx_eq_length.1 h1
  intro e he
  simpa using this e he
def writeXs (n : Nat) (xs : List Int) (li : Int) (l : List Int) : List Int := if 0 ≤ li ∧ li < n then lnPut xs li.toNat l else xs

/-! ### The one -/
def SysAny (W w : World) (q be g b n v room : Nat) (es : List Ent) (xs : List Int) (val : Value) (e : Ending) (w' : World) : Prop := SysTo W w q be g b n v room es xs val e w'
section
variable {W w : World} {q be g b n v room : Nat} {es : List Ent} {xs : List Int} (h : Sys W w q be g b n v room es xs)
include h
theorem any_push (li : Int) (l : List Int) (hl : l.length = 8) : Calls Try.prog 13 #[.pointer (some ⟨q, 0, none⟩), .int .i64 li, .agg (vs l)] w (SysTo W w q be g b n v room (pushEs n room es li l hl) xs (.int .i64 (pushVal n room es li))) := by
  unfold pushEs pushVal
  by_cases hi : 0 ≤ li ∧ li < n
  · obtain ⟨j, rfl⟩ := Int.eq_ofNat_of_zero_le hi.1
    have hj : j < n := by omega
    rw [if_pos hi, if_pos hi]
    by_cases hr : room ≤ es.length
    · rw [if_pos hr, if_pos hr]
      exact (push_full q be g n room es j l w h.2.1 hj hr).mono fun e w' ⟨he, hc⟩ => ⟨he, be, h.keep hc, hc.mono (by simp), .inl rfl⟩
    · rw [if_neg hr, if_neg hr]
      exact sys_push h ⟨j, l, hl⟩ hj (by omega)
  · rw [if_neg hi, if_neg hi]
    exact (push_out q be g n room es li l w h.2.1 hi).mono fun e w' ⟨he, hc⟩ => ⟨he, be, h.keep hc, hc.mono (by simp), .inl rfl⟩
theorem any_read (li : Int) : Calls Try.prog 15 #[.pointer (some ⟨q, 0, none⟩), .int .i64 li] w (SysTo W w q be g b n v room es xs (.tuple #[.agg (vs (readLn n (over xs es) li)), .int .i64 (readVal n li)])) := by
  unfold readLn readVal
  by_cases hi : 0 ≤ li ∧ li < n
  · obtain ⟨j, rfl⟩ := Int.eq_ofNat_of_zero_le hi.1
    rw [if_pos hi, if_pos hi]
    exact sys_read h j (by omega)
  · rw [if_neg hi, if_neg hi]
    exact (qread_out q be g b n v room es xs li w h.2.1 h.2.2.1 hi).mono fun e w' ⟨he, hc⟩ => ⟨he, be, h.keep hc, hc.mono (by simp), .inl rfl⟩
theorem any_drain (li : Int) : Calls Try.prog 17 #[.pointer (some ⟨q, 0, none⟩), .int .i64 li] w (SysTo W w q be g b n v room (drainEs es li) (drainXs xs es li) (.int .i64 (drainVal es li))) := by
  unfold drainEs drainVal drainXs
  by_cases hi : firstAt es li < es.length
  · obtain ⟨x, h1, h2, h3⟩ := first_some hi
    rw [if_pos hi, h1]
    subst h2
    exact sys_drain h x _ h1 h3
  · rw [if_neg hi, List.eraseIdx_of_length_le (by omega), List.getElem?_eq_none (by omega)]
    exact (drain_none q be g n room es li w h.2.1 (first_none hi)).mono fun e w' ⟨he, hc⟩ => ⟨he, be, h.keep hc, hc.mono (by simp), .inl rfl⟩
theorem any_write (li : Int) (l : List Int) (hl : l.length = 8) : Calls Try.prog 21 #[.pointer (some ⟨g, 0, none⟩), .int .i64 li, .agg (vs l)] w (SysTo W w q be g b n v room es (writeXs n xs li l) (.int .i64 (readVal n li))) := by
  unfold writeXs readVal
  by_cases hi : 0 ≤ li ∧ li < n
  · obtain ⟨j, rfl⟩ := Int.eq_ofNat_of_zero_le hi.1
    rw [if_pos hi, if_pos hi]
    exact (write_ok g b n v j l xs w h.2.2.1 (by omega) hl).mono fun e w' ⟨he, hc, hd⟩ => by
      obtain ⟨a1, a2, a3, a4⟩ := h.2.2.2.1
      exact ⟨he, be, ⟨h.1.trans' hc (by have := h.2.2.2.2; simp; omega), h.2.1.keep hc (by simp; omega) (by simp; omega), hd, h.2.2.2⟩, hc.mono (by simp), .inl rfl⟩
  · rw [if_neg hi, if_neg hi]
    exact (write_out g b n v li l xs w h.2.2.1 hi).mono fun e w' ⟨he, hc⟩ => ⟨he, be, h.keep hc, hc.mono (by simp), .inl rfl⟩
end

/-! ### The other one -/
def RSys (w : World) (p bp o bq n v room : Nat) (es : List Ent) (xs : List Int) : Prop := RQue w p bp o n room es ∧ RDev w o bq n v xs ∧ RApart p bp o bq
theorem RSys.keep {w w' : World} {p bp o bq n v room : Nat} {es : List Ent} {xs : List Int} {l : List Nat} (h : RSys w p bp o bq n v room es xs) (hc : Chg l w w') (hl : ∀ x ∈ [p, bp, o, bq], x ∉ l) : RSys w' p bp o bq n v room es xs :=
  ⟨h.1.keep hc (hl p (by simp)) (hl bp (by simp)), h.2.1.keep hc (hl o (by simp)) (hl bq (by simp)), h.2.2⟩
def RSysTo (w : World) (p bp o bq n v room : Nat) (es : List Ent) (xs : List Int) (val : Value) (e : Ending) (w' : World) : Prop :=
  e = .returned val ∧ ∃ bp', RSys w' p bp' o bq n v room es xs ∧ Chg [p, bp, o, bq] w w' ∧ (bp' = bp ∨ bp' = p ∨ w.heap.size ≤ bp')
section
variable {w : World} {p bp o bq n v room : Nat} {es : List Ent} {xs : List Int} (h : RSys w p bp o bq n v room es xs)
include h
theorem RSys.olds : p < w.heap.size ∧ bp < w.heap.size ∧ o < w.heap.size ∧ bq < w.heap.size := ⟨h.1.oldq.lt, h.1.olde.lt, (old (h.2.1.1.choose_spec)).lt, (old (h.2.1.2.1.choose_spec)).lt⟩
theorem rany_same {f : FuncId} {args : Array Value} {val : Value} (hc : Calls Try.prog f args w fun e w' => e = .returned val ∧ Chg [] w w') : Calls Try.prog f args w (RSysTo w p bp o bq n v room es xs val) :=
  hc.mono fun e w' ⟨he, hc⟩ => ⟨he, bp, h.keep hc (by simp), hc.mono (by simp), .inl rfl⟩
theorem rany_push (li : Int) (l : List Int) (hl : l.length = 8) : Calls Try.prog 14 #[.pointer (some ⟨p, 0, none⟩), .int .i64 li, .agg (vs l)] w (RSysTo w p bp o bq n v room (pushEs n room es li l hl) xs (.int .i64 (pushVal n room es li))) := by
  have ho := h.olds
  obtain ⟨a1, a2, a3, a4⟩ := h.2.2
  unfold pushEs pushVal
  by_cases hi : 0 ≤ li ∧ li < n
  · obtain ⟨j, rfl⟩ := Int.eq_ofNat_of_zero_le hi.1
    have hj : j < n := by omega
    rw [if_pos hi, if_pos hi]
    by_cases hr : room ≤ es.length
    · rw [if_pos hr, if_pos hr]
      exact rany_same h (rpush_full p bp o bq n v room es xs j l w h.1 h.2.1 hj hr)
    · rw [if_neg hr, if_neg hr]
      refine (rpush_ok p bp o bq n v room es xs ⟨j, l, hl⟩ w h.1 h.2.1 hj (by omega)).mono fun e w' ⟨he, bp', hb, hc, hq⟩ => ⟨he, bp', ⟨hq, h.2.1.keep hc (by simp; omega) (by simp; omega), ⟨a1, a2, ?_, ?_⟩⟩, hc.mono (by simp), ?_⟩
      · rcases hb with rfl | hb <;> omega
      · rcases hb with rfl | hb <;> omega
      · rcases hb with rfl | hb
        · exact .inl rfl
        · exact .inr (.inr hb)
  · rw [if_neg hi, if_neg hi]
    exact rany_same h (rpush_out p bp o bq n v room es xs li l w h.1 h.2.1 hi)
theorem rany_read (li : Int) : Calls Try.prog 16 #[.pointer (some ⟨p, 0, none⟩), .int .i64 li] w (RSysTo w p bp o bq n v room es xs (.tuple #[.agg (vs (readLn n (over xs es) li)), .int .i64 (readVal n li)])) := by
  unfold readLn readVal
  by_cases hi : 0 ≤ li ∧ li < n
  · obtain ⟨j, rfl⟩ := Int.eq_ofNat_of_zero_le hi.1
    rw [if_pos hi, if_pos hi]
    exact rany_same h (rqread_ok p bp o bq n v room es xs j w h.1 h.2.1 (by omega))
  · rw [if_neg hi, if_neg hi]
    exact rany_same h (rqread_out p bp o bq n v room es xs li w h.1 h.2.1 hi)
theorem rany_drain (li : Int) : Calls Try.prog 18 #[.pointer (some ⟨p, 0, none⟩), .int .i64 li] w (RSysTo w p bp o bq n v room (drainEs es li) (drainXs xs es li) (.int .i64 (drainVal es li))) := by
  have ho := h.olds
  obtain ⟨a1, a2, a3, a4⟩ := h.2.2
  unfold drainEs drainVal drainXs
  by_cases hi : firstAt es li < es.length
  · obtain ⟨x, h1, h2, h3⟩ := first_some hi
    rw [if_pos hi, h1]
    subst h2
    exact (rdrain_ok p bp o bq n v room es xs _ x w h.1 h.2.1 h.2.2 h1 h3).mono fun e w' ⟨he, bp', hb, hc, hq, hd⟩ => ⟨he, bp', ⟨hq, hd, ⟨a1, a2, by omega, by omega⟩⟩, hc.mono (by simp), .inr (.inr hb)⟩
  · rw [if_neg hi, List.eraseIdx_of_length_le (by omega), List.getElem?_eq_none (by omega)]
    exact rany_same h ((rdrain_none p bp o n room es li w h.1 (first_none hi)).mono fun e w' ⟨he, hw⟩ => ⟨he, by subst hw; exact Chg.refl _ _⟩)
theorem rany_fail : Calls Try.prog 20 #[.pointer (some ⟨p, 0, none⟩)] w (RSysTo w p bp o bq n v room [] (forget (over xs es) v) (.tuple #[])) := by
  obtain ⟨a1, a2, a3, a4⟩ := h.2.2
  exact (rqfail_ok p bp o bq n v room es xs w h.1 h.2.1 h.2.2).mono fun e w' ⟨he, hc, hq, hd⟩ => ⟨he, p, ⟨hq, hd, ⟨a1, a2, a1, a2⟩⟩, hc.mono (by simp), .inr (.inl rfl)⟩
theorem rany_write (li : Int) (l : List Int) (hl : l.length = 8) : Calls Try.prog 22 #[.pointer (some ⟨o, 0, none⟩), .int .i64 li, .agg (vs l)] w (RSysTo w p bp o bq n v room es (writeXs n xs li l) (.int .i64 (readVal n li))) := by
  unfold writeXs readVal
  by_cases hi : 0 ≤ li ∧ li < n
  · obtain ⟨j, rfl⟩ := Int.eq_ofNat_of_zero_le hi.1
    rw [if_pos hi, if_pos hi]
    exact (rwrite_ok o bq n v j l xs w h.2.1 (by omega) hl).mono fun e w' ⟨he, hc, hd⟩ => by
      obtain ⟨a1, a2, a3, a4⟩ := h.2.2
      exact ⟨he, bp, ⟨h.1.keep hc (by simp; omega) (by simp; omega), hd, h.2.2⟩, hc.mono (by simp), .inl rfl⟩
  · rw [if_neg hi, if_neg hi]
    exact rany_same h (rwrite_out o bq n v li l xs w h.2.1 hi)
end

/-! ### Both -/
def Both (W w : World) (q be g b p bp o bq n v room : Nat) (es : List Ent) (xs : List Int) (es' : List Ent) (xs' : List Int) : Prop :=
  Sys W w q be g b n v room es xs ∧ RSys w p bp o bq n v room es' xs' ∧ (∀ x ∈ [p, bp, o, bq], x ∉ [q, be, g, b]) ∧ ∀ x ∈ [p, bp, o, bq], W.heap.size ≤ x
section
variable {W w w' : World} {q be g b p bp o bq n v room : Nat} {es es' es2 : List Ent} {xs xs' xs2 : List Int} (h : Both W w q be g b p bp o bq n v room es xs es' xs')
include h
theorem Both.keep (hc : Chg [] w w') : Both W w' q be g b p bp o bq n v room es xs es' xs' := ⟨h.1.keep hc, h.2.1.keep hc (by simp), h.2.2⟩
theorem Both.one {be' : Nat} (hs : Sys W w' q be' g b n v room es2 xs2) (hc : Chg [q, be, g, b] w w') (hb : be' = be ∨ w.heap.size ≤ be') : Both W w' q be' g b p bp o bq n v room es2 xs2 es' xs' := by
  refine ⟨hs, h.2.1.keep hc h.2.2.1, fun x hx => ?_, h.2.2.2⟩
  have ho := h.2.1.olds
  refine notNew (h.2.2.1 x hx) ?_ hb
  simp only [List.mem_cons, List.not_mem_nil, or_false] at hx
  rcases hx with rfl | rfl | rfl | rfl <;> omega
theorem Both.oldOne : q < w.heap.size ∧ be < w.heap.size ∧ g < w.heap.size ∧ b < w.heap.size := ⟨h.1.2.1.oldq.lt, h.1.2.1.olde.lt, h.1.2.2.1.oldg, h.1.2.2.1.oldb⟩
theorem Both.other {bp' : Nat} (hs : RSys w' p bp' o bq n v room es2 xs2) (hc : Chg [p, bp, o, bq] w w') (hb : bp' = bp ∨ bp' = p ∨ w.heap.size ≤ bp') : Both W w' q be g b p bp' o bq n v room es xs es2 xs2 := by
  have hd : ∀ y ∈ [q, be, g, b], y ∉ [p, bp, o, bq] := fun y hy h1 => h.2.2.1 y h1 hy
  obtain ⟨s1, s2, s3, s4, s5⟩ := h.1
  have hx : ∀ x ∈ [p, bp', o, bq], x ∈ [p, bp, o, bq] ∨ w.heap.size ≤ x := by
    intro x hx
    simp only [List.mem_cons, List.not_mem_nil, or_false] at hx ⊢
    rcases hx with rfl | rfl | rfl | rfl
    · exact .inl (.inl rfl)
    · rcases hb with rfl | rfl | hb
      · exact .inl (.inr (.inl rfl))
      · exact .inl (.inl rfl)
      · exact .inr hb
    · exact .inl (.inr (.inr (.inl rfl)))
    · exact .inl (.inr (.inr (.inr rfl)))
  refine ⟨⟨s1.trans' hc (fun x hx => .inr (h.2.2.2 x hx)), s2.keep hc (hd q (by simp)) (hd be (by simp)), s3.keep hc (hd g (by simp)) (hd b (by simp)), s4, s5⟩, hs, fun x hm => ?_, fun x hm => ?_⟩
  · rcases hx x hm with h1 | h1
    · exact h.2.2.1 x h1
    · exact h.1.new4 h1
  · rcases hx x hm with h1 | h1
    · exact h.2.2.2 x h1
    · exact Nat.le_trans s1.size h1
/-- A block of somebody else's. -/
theorem Both.else1 {k : Nat} (hk : w.heap.size ≤ k) : k ∉ [q, be, g, b] := h.1.new4 hk
theorem Both.else2 {k : Nat} (hk : w.heap.size ≤ k) : k ∉ [p, bp, o, bq] := by
  have := h.2.1.olds
  simp; omega
theorem Both.arg2 {k : Nat} (hk : k < W.heap.size) : k ∉ [p, bp, o, bq] := by
  have hw := h.2.2.2
  simp only [List.mem_cons, List.not_mem_nil, or_false, forall_eq_or_imp, forall_eq] at hw
  simp; omega
end

/-! ### A step's cells -/
structure Stp where
  kd : Int
  li : Int
  l : List Int
  h : l.length = 8
def stc (s : Stp) : Array Value := (.int .i64 s.kd :: .int .i64 s.li :: s.l.map (Value.int .u64)).toArray
theorem stc_size (s : Stp) : (stc s).size = 10 := by simp [stc, s.h]
theorem stc_one (s : Stp) : allOne (stc s) := allOne_list _ (by simp [Value.oneCell'])
theorem stc_kd (s : Stp) : (stc s)[0]? = some (.int .i64 s.kd) := by simp [stc]
theorem stc_li (s : Stp) : (stc s)[1]? = some (.int .i64 s.li) := by simp [stc]
theorem stc_l (s : Stp) (t : TypeId) (f : Nat × Nat) : rowPart (some (.cells (stc s) t f)) 2 8 = vs s.l := by
  rw [rowPart_some]
  have := s.h
  simp [stc, vs, List.take_of_length_le, this]
end Go.Proofs.Ytaignekkhfjicaa
