/- BusFences: walked. No condition. -/
import Derived.Test.YtnocekhgabgffaaBwx
import Derived.Test.YtnocekhgabgffaaBlf
namespace Go.Proofs.Ytnocekhgabgffaa
open Go.RowKit
set_option linter.unusedVariables false
set_option maxHeartbeats 1000000

set_option maxRecDepth 100000
attribute [local go_sem ↓] append_appS copy_copS clear_clrS make_mkS slice_slS lookup_lookS mput_mputS del_mdelS cell_row frozen_row heap_drew heap_drewN heap_alloc heap_past heap_setCell heap_putRow heap_setB loadEv storeEv loadBe storeBe loadSp storeSp loadNw storeNw loadLine storeLine evc_kd evc_co evc_li evc_wo evc_va bec_fl bec_li bec_wo bec_va nwC_0 nwC_1 spC_0 spC_1
attribute [local go_sem] rowCell_some rowFrozen_some rowHas_some rowIn_some rowPart_full rowPart_lit rowPut_full rowPut_lit rowSet_some size_putRow size_setB run_loadS run_storeS run_appS run_copS run_clrS run_mkS run_slS run_lookS run_mputS run_mdelS loadW_at storeW_at fit_all fit_le one_int one_bool one_pointer one_slice allOne_list putRow_new ne_size1 ne_size2 ne_size3 ne_size4 wideEv wideBe wideSp wideNw wideLine evc_size evc_one evc_ne evc_lit evc_z fold_evc bec_size bec_one bec_lit bec_ne bec_at bec_in spC_size spC_one nwC_size nwC_one nwC_ne nwC_set0 nwC_set1 nwC_lit bec_set0 bec_set1 bec_set2 bec_set3 spC_set0 spC_set1 spC_lit fold_spC spC_ne fold_nwC fold_bec fold_at vs_size vs_one ic_size ic_get
attribute [local simp ↓] heap_drew heap_drewN heap_alloc heap_past heap_setCell heap_putRow heap_setB
attribute [local simp] rowCell_some rowFrozen_some rowHas_some rowIn_some rowPart_full rowPart_lit rowPut_full rowPut_lit rowSet_some size_putRow size_setB fit_all putRow_new ne_size1 ne_size2 ne_size3 ne_size4 evc_size bec_size spC_size nwC_size vs_size fit_le
def kEv14 : List Kd := [.int .i64, .int .i64, .int .i64, .int .i64, .int .u64]
theorem ev_cells14 {w : World} {cs : List Value} (h : AreKd w kEv14 cs) : ∃ x : Ev, cs = Ev.enc x := by
  obtain ⟨v1, c1, rfl, h1, hB⟩ := AreKd.head h
  obtain ⟨v2, c2, rfl, h2, hC⟩ := AreKd.head hB
  obtain ⟨v3, c3, rfl, h3, hD⟩ := AreKd.head hC
  obtain ⟨v4, c4, rfl, h4, hE⟩ := AreKd.head hD
  obtain ⟨v5, c5, rfl, h5, hF⟩ := AreKd.head hE
  obtain rfl : c5 = [] := List.eq_nil_of_length_eq_zero (by simpa using hF.1)
  simp only [IsKd] at h1 h2 h3 h4 h5
  obtain ⟨a, rfl, _⟩ := h1
  obtain ⟨b, rfl, _⟩ := h2
  obtain ⟨c, rfl, _⟩ := h3
  obtain ⟨d, rfl, _⟩ := h4
  obtain ⟨e, rfl, _⟩ := h5
  exact ⟨⟨a, b, c, d, e⟩, rfl⟩
theorem ev_row14 {w wr : World} {A : Option Addr} {n : Nat} {xs : List Value} (hA : Sl w 5 A n xs) {i : Nat} (hi : i < n) (hk : AreKd w kEv14 ((xs.drop (i * 5)).take 5)) (hc : Chg [] w wr) :
    ∃ (x : Ev) (b o : Nat) (c : Array Value) (t : TypeId) (f : Nat × Nat), A = some ⟨b, o, none⟩ ∧ wr.heap[b]? = some (.cells c t f) ∧ rowIn (some (.cells c t f)) (o + i * 5) 5 = true ∧ rowPart (some (.cells c t f)) (o + i * 5) 5 = evc x := by
  obtain ⟨x, hy⟩ := ev_cells14 hk
  obtain ⟨b, o, rfl⟩ := hA.addr (by omega)
  obtain ⟨cs, t, f, hb, _, hp⟩ := (hA.chg hc (by simp)).elem (by omega) hi hy
  have h0 := hp 0 5 (by omega)
  rw [Nat.add_zero] at h0
  refine ⟨x, b, o, cs, t, f, rfl, hb, h0.1, ?_⟩
  rw [h0.2]
  simp [evc, Ev.enc]
attribute [local go_sem ↓] loadCf storeCf evc_set0 evc_set1 evc_set2 evc_set3 evc_set4
attribute [local go_sem] wideCf
end Go.Proofs.Ytnocekhgabgffaa
