/- A bus beside other blocks. No condition. -/
import Derived.Test.YtnocekhgabgffaaBwk
namespace Go.Proofs.Ytnocekhgabgffaa
open Go.RowKit
set_option linter.unusedVariables false
set_option maxHeartbeats 1000000

set_option maxRecDepth 100000
attribute [local go_sem ↓] append_appS copy_copS clear_clrS make_mkS slice_slS lookup_lookS mput_mputS del_mdelS cell_row frozen_row heap_drew heap_drewN heap_alloc heap_past heap_setCell heap_putRow heap_setB loadEv storeEv loadBe storeBe loadSp storeSp loadNw storeNw loadLine storeLine evc_kd evc_co evc_li evc_wo evc_va bec_fl bec_li bec_wo bec_va nwC_0 nwC_1 spC_0 spC_1
attribute [local go_sem] rowCell_some rowFrozen_some rowHas_some rowIn_some rowPart_full rowPart_lit rowPut_full rowPut_lit rowSet_some size_putRow size_setB run_loadS run_storeS run_appS run_copS run_clrS run_mkS run_slS run_lookS run_mputS run_mdelS loadW_at storeW_at fit_all fit_le one_int one_bool one_pointer one_slice allOne_list putRow_new ne_size1 ne_size2 ne_size3 ne_size4 wideEv wideBe wideSp wideNw wideLine evc_size evc_one evc_ne evc_lit evc_z fold_evc bec_size bec_one bec_lit bec_ne bec_at bec_in spC_size spC_one nwC_size nwC_one nwC_ne nwC_set0 nwC_set1 nwC_lit bec_set0 bec_set1 bec_set2 bec_set3 spC_set0 spC_set1 spC_lit fold_spC spC_ne fold_nwC fold_bec fold_at vs_size vs_one ic_size ic_get
attribute [local simp ↓] heap_drew heap_drewN heap_alloc heap_past heap_setCell heap_putRow heap_setB
attribute [local simp] rowCell_some rowFrozen_some rowHas_some rowIn_some rowPart_full rowPart_lit rowPut_full rowPut_lit rowSet_some size_putRow size_setB fit_all putRow_new ne_size1 ne_size2 ne_size3 ne_size4 evc_size bec_size spC_size nwC_size vs_size fit_le
/-- A bus that is new to the world W, and apart from some blocks. -/
def BusX (n m : Nat) (W w : World) (q : Nat) (S : Bs) (ex : List Nat) : Prop := ∃ F, BusM n m w q F S ∧ (∀ z ∈ F, W.heap.size ≤ z) ∧ Chg [] W w ∧ ∀ z ∈ ex, z ∉ F ∧ z < w.heap.size
section
variable {n m : Nat} {W w w' : World} {q : Nat} {S : Bs} {ex : List Nat}
theorem BusX.toW (h : BusX n m W w q S ex) : BusW n m W w q S := by
  obtain ⟨F, h1, h2, h3, _⟩ := h
  exact ⟨F, h1, h2, h3⟩
theorem BusX.all (h : BusX n m W w q S ex) : Chg [] W w := h.toW.all
theorem BusX.less {ey : List Nat} (h : BusX n m W w q S ex) (he : ∀ z ∈ ey, z ∈ ex) : BusX n m W w q S ey := by
  obtain ⟨F, h1, h2, h3, h4⟩ := h
  exact ⟨F, h1, h2, h3, fun z hz => h4 z (he z hz)⟩
theorem BusW.x (h : BusW n m W w q S) : BusX n m W w q S [] := by
  obtain ⟨F, h1, h2, h3⟩ := h
  exact ⟨F, h1, h2, h3, by simp⟩
theorem BusX.chg {l : List Nat} (h : BusX n m W w q S ex) (hc : Chg l w w') (hl : ∀ z ∈ l, z ∈ ex ∧ W.heap.size ≤ z) : BusX n m W w' q S ex := by
  obtain ⟨F, h1, h2, h3, h4⟩ := h
  exact ⟨F, h1.keep hc (fun z hz hl' => (h4 z (hl z hl').1).1 hz), h2, h3.trans' hc (fun z hz => .inr (hl z hz).2), fun z hz => ⟨(h4 z hz).1, Nat.lt_of_lt_of_le (h4 z hz).2 hc.size⟩⟩
/-- More blocks that are apart: new ones. -/
theorem BusX.add {l ey : List Nat} (h : BusX n m W w q S ex) (hc : Chg l w w') (hl : ∀ z ∈ l, z ∈ ex ∧ W.heap.size ≤ z) (he : ∀ z ∈ ey, z ∈ ex ∨ w.heap.size ≤ z ∧ z < w'.heap.size) : BusX n m W w' q S ey := by
  obtain ⟨F, h1, h2, h3, h4⟩ := h.chg hc hl
  obtain ⟨F0, g1, g2, g3, g4⟩ := h
  refine ⟨F0, g1.keep hc (fun z hz hl' => (g4 z (hl z hl').1).1 hz), g2, h3, fun z hz => ?_⟩
  rcases he z hz with h | ⟨h, h'⟩
  · exact ⟨(g4 z h).1, Nat.lt_of_lt_of_le (g4 z h).2 hc.size⟩
  · exact ⟨fun hF => by have := g1.old z hF; omega, h'⟩
theorem do_x (h : BusX n m W w q S ex) {N : Nat} (ok : S.Ok n m N) (hN : N ≤ 1000000) (e : Ev) : Calls Try.prog 35 #[.pointer (some ⟨q, 0, none⟩), .agg (evc e)] w fun r w' => r = .returned (.bool (doB S e).isSome) ∧ BusX n m W w' q ((doB S e).getD S) ex ∧ ∀ z ∈ ex, w'.heap[z]? = w.heap[z]? := by
  obtain ⟨F, h1, h2, h3, h4⟩ := h
  refine (do_ev h1 ok hN e).mono ?_
  rintro r w' ⟨rfl, F', g1, g2, g3⟩
  refine ⟨rfl, ⟨F', g1, fun z hz => ?_, h3.trans' g2 (fun z hz => .inr (h2 z hz)), fun z hz => ⟨fun hF => ?_, Nat.lt_of_lt_of_le (h4 z hz).2 g2.size⟩⟩, fun z hz => g2.block z (h4 z hz).2 (h4 z hz).1⟩
  · rcases g3 z hz with h | h
    · exact h2 z h
    · exact Nat.le_trans h3.size h
  · rcases g3 z hF with h | h
    · exact (h4 z hz).1 h
    · have := (h4 z hz).2; omega
end
end Go.Proofs.Ytnocekhgabgffaa
