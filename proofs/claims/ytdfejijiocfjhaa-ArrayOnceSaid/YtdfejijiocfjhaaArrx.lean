/- Two arrays side by side. No condition. -/
import Derived.Test.YtdfejijiocfjhaaArrn
import Derived.Test.YtdfejijiocfjhaaArgs
namespace Go.Proofs.Ytdfejijiocfjhaa
open Go.RowKit
set_option linter.unusedVariables false
set_option maxHeartbeats 1000000
attribute [local go_sem ↓] append_appS copy_copS clear_clrS make_mkS cell_row frozen_row loadLine storeLine loadSlot storeSlot heap_drew heap_drewN heap_alloc heap_past heap_setCell heap_putRow vs_get slc_st slc_li slc_us
attribute [local go_sem] rowCell_some rowFrozen_some rowHas_some rowIn_some rowPart_full rowPart_lit rowPut_full rowPut_lit rowSet_some size_putRow vs_size vs_one wideLine wideSlot run_loadS run_storeS run_appS run_copS run_clrS run_mkS loadW_at storeW_at fit_all fit_le one_int one_bool one_pointer one_slice allOne_list putRow_new ne_size1 ne_size2 ne_size3 ne_size4 zero8_length line_eq lit8 slc_size slc_one slc_part slc_in fold_slt fold_slc slc_set_us
attribute [local simp ↓] heap_drew heap_drewN heap_alloc heap_past heap_setCell heap_putRow
attribute [local simp] rowCell_some rowFrozen_some rowHas_some rowIn_some rowPart_full rowPart_lit rowPut_full rowPut_lit rowSet_some size_putRow vs_size fit_all putRow_new ne_size1 ne_size2 ne_size3 ne_size4 zero8_length slc_size


attribute [local go_sem ↓] loadRSlot storeRSlot loadAStep storeAStep
attribute [local go_sem] wideRSlot wideAStep
/-! ### A step's cells -/
structure AStp where
  kd : Int
  li : Int
  st : Int
  l : List Int
  h : l.length = 8
def asc (s : AStp) : Array Value := (.int .i64 s.kd :: .int .i64 s.li :: .int .i64 s.st :: s.l.map (Value.int .u64)).toArray
theorem asc_size (s : AStp) : (asc s).size = 11 := by simp [asc, s.h]
theorem asc_one (s : AStp) : allOne (asc s) := allOne_list _ (by simp [Value.oneCell'])
theorem asc_kd (s : AStp) : (asc s)[0]? = some (.int .i64 s.kd) := by simp [asc]
theorem asc_li (s : AStp) : (asc s)[1]? = some (.int .i64 s.li) := by simp [asc]
theorem asc_st (s : AStp) : (asc s)[2]? = some (.int .i64 s.st) := by simp [asc]
theorem asc_l (s : AStp) (t : TypeId) (f : Nat × Nat) : rowPart (some (.cells (asc s) t f)) 3 8 = vs s.l := by
  rw [rowPart_some]
  have := s.h
  simp [asc, vs, List.take_of_length_le, this]
theorem asc_in (s : AStp) (t : TypeId) (f : Nat × Nat) : rowIn (some (.cells (asc s) t f)) 3 8 = true := by
  rw [rowIn_some, asc_size]; exact decide_eq_true (show 3 + 8 ≤ 11 by omega)
def kAStep : List Kd := .int .i64 :: .int .i64 :: .int .i64 :: kLine
theorem astep_cells {w : World} {cs : List Value} (h : AreKd w kAStep cs) : ∃ (kd li st : Int) (l : List Int), l.length = 8 ∧ cs = .int .i64 kd :: .int .i64 li :: .int .i64 st :: l.map (Value.int .u64) := by
  obtain ⟨v0, c0, rfl, h0, hA⟩ := AreKd.head h
  obtain ⟨v1, c1, rfl, h1, hB⟩ := AreKd.head hA
  obtain ⟨v2, c2, rfl, h2, hC⟩ := AreKd.head hB
  rw [IsKd] at h0 h1 h2
  obtain ⟨kd, rfl, _⟩ := h0
  obtain ⟨li, rfl, _⟩ := h1
  obtain ⟨st, rfl, _⟩ := h2
  obtain ⟨ns, hl, rfl, _⟩ := AreKd.ints (m := 8) hC
  exact ⟨kd, li, st, ns, hl, rfl⟩
theorem astep_row {w : World} {o b n : Nat} {xs : List Value} (hA : Sl w 11 (some ⟨b, o, none⟩) n xs) {i : Nat} (hi : i < n) (hk : AreKd w kAStep ((xs.drop (i * 11)).take 11)) :
    ∃ (x : AStp) (c : Array Value) (t : TypeId) (f : Nat × Nat), w.heap[b]? = some (.cells c t f) ∧ rowIn (some (.cells c t f)) (o + i * 11) 11 = true ∧ rowPart (some (.cells c t f)) (o + i * 11) 11 = asc x := by
  obtain ⟨kd, li, st, l, hl8, hy⟩ := astep_cells hk
  obtain ⟨cs, t, f, hb, _, hp⟩ := hA.elem (by omega) hi hy
  have h0 := hp 0 11 (by omega)
  rw [Nat.add_zero] at h0
  refine ⟨⟨kd, li, st, l, hl8⟩, cs, t, f, hb, h0.1, ?_⟩
  rw [h0.2]
  simp [asc, List.take_of_length_le, hl8]

/-- The program's array at a and b, the document's at c and d: the same slots. -/
def ABoth (W w : World) (a b c d S M : Nat) (xs xs' : List Slt) (u u' : Int) : Prop :=
  ASys W w a b S M xs u ∧ RArr w c d S M xs' u' ∧ (∀ x ∈ [c, d], x ∉ [a, b]) ∧ ∀ x ∈ [c, d], W.heap.size ≤ x
section
variable {W w w' : World} {a b c d S M : Nat} {xs xs' ys : List Slt} {u u' v : Int} (h : ABoth W w a b c d S M xs xs' u u')
include h
theorem ABoth.keep (hc : Chg [] w w') : ABoth W w' a b c d S M xs xs' u u' := ⟨h.1.keep hc, h.2.1.keep hc (by simp) (by simp), h.2.2⟩
theorem ABoth.one (hs : ASys W w' a b S M ys v) (hc : Chg [a, b] w w') : ABoth W w' a b c d S M ys xs' v u' :=
  ⟨hs, h.2.1.keep hc (h.2.2.1 c (by simp)) (h.2.2.1 d (by simp)), h.2.2⟩
theorem ABoth.other (hs : RArr w' c d S M ys v) (hc : Chg [c, d] w w') : ABoth W w' a b c d S M xs ys u v := by
  have hd : ∀ y ∈ [a, b], y ∉ [c, d] := fun y hy h1 => h.2.2.1 y h1 hy
  refine ⟨⟨h.1.1.trans' hc (fun x hx => .inr (h.2.2.2 x hx)), h.1.2.1.keep hc (hd a (by simp)) (hd b (by simp)), h.1.2.2⟩, hs, h.2.2⟩
/-- A block of somebody else's. -/
theorem ABoth.else1 {k : Nat} (hk : w.heap.size ≤ k) : k ∉ [a, b] := h.1.new2 hk
theorem ABoth.else2 {k : Nat} (hk : w.heap.size ≤ k) : k ∉ [c, d] := by
  have h1 := h.2.1.olda
  have h2 := h.2.1.oldb
  simp; omega
theorem ABoth.else4 {k : Nat} (hk : w.heap.size ≤ k) : k ∉ [a, b, c, d] := by
  have h1 := h.else1 hk
  have h2 := h.else2 hk
  simp at h1 h2 ⊢
  omega
end
theorem find_yes {xs : List Slt} {li : Int} (h : dropVal xs li = true) : ∃ k : Nat, hit (pLine li) xs = (k : Int) ∧ xs[k]? = some (findVal xs li) ∧ k < xs.length := by
  unfold dropVal at h
  have h1 : xs.findIdx (pLine li) < xs.length := by simpa using h
  refine ⟨_, by unfold hit; rw [if_pos h1], ?_, h1⟩
  unfold findVal
  rw [List.getElem?_eq_getElem h1]
theorem find_no {xs : List Slt} {li : Int} (h : dropVal xs li = false) : hit (pLine li) xs = -1 ∧ findVal xs li = sltZ := by
  unfold dropVal at h
  have h1 : ¬ xs.findIdx (pLine li) < xs.length := by simpa using h
  refine ⟨by unfold hit; rw [if_neg h1], ?_⟩
  unfold findVal
  rw [List.getElem?_eq_none (by omega)]
/-- Room, by the document's words. -/
theorem room_neg {S W : Nat} {xs : List Slt} {li : Int} (h : li < 0) : roomFree S W xs li = false ∧ roomVic S W xs li = -1 := by
  unfold roomFree roomVic
  rw [if_pos h]
  simp; omega
theorem room_yes {S W : Nat} {xs : List Slt} {li : Int} (h : 0 ≤ li) (hf : 0 ≤ freeI S W xs li) : roomFree S W xs li = true ∧ roomVic S W xs li = -1 := by
  unfold freeI at hf
  split at hf
  · rename_i h1
    unfold roomFree roomVic
    rw [if_neg (by omega), if_pos h1]
    simp [h, h1]
  · omega
theorem room_no {S W : Nat} {xs : List Slt} {li : Int} (h : 0 ≤ li) (hf : ¬ 0 ≤ freeI S W xs li) : roomFree S W xs li = false ∧ roomVic S W xs li = eld (seg W xs (setOf S li)) ∧ freeI S W xs li = -1 := by
  unfold freeI at *
  split at hf
  · omega
  · rename_i h1
    unfold roomFree roomVic
    rw [if_neg (by omega), if_neg h1, if_neg h1]
    simp [h1]
end Go.Proofs.Ytdfejijiocfjhaa
