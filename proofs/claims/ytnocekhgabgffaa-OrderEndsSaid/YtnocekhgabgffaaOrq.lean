/- Copies; a remainder: walked. No condition. -/
import Derived.Test.YtnocekhgabgffaaOrc
namespace Go.Proofs.Ytnocekhgabgffaa
open Go.RowKit
set_option linter.unusedVariables false
set_option maxHeartbeats 1000000

set_option maxRecDepth 100000
attribute [local go_sem ↓] append_appS copy_copS clear_clrS make_mkS slice_slS lookup_lookS mput_mputS del_mdelS cell_row frozen_row heap_drew heap_drewN heap_alloc heap_past heap_setCell heap_putRow heap_setB loadEv storeEv loadBe storeBe loadSp storeSp loadNw storeNw loadLine storeLine evc_kd evc_co evc_li evc_wo evc_va bec_fl bec_li bec_wo bec_va nwC_0 nwC_1 spC_0 spC_1
attribute [local go_sem] rowCell_some rowFrozen_some rowHas_some rowIn_some rowPart_full rowPart_lit rowPut_full rowPut_lit rowSet_some size_putRow size_setB run_loadS run_storeS run_appS run_copS run_clrS run_mkS run_slS run_lookS run_mputS run_mdelS loadW_at storeW_at fit_all fit_le one_int one_bool one_pointer one_slice allOne_list putRow_new ne_size1 ne_size2 ne_size3 ne_size4 wideEv wideBe wideSp wideNw wideLine evc_size evc_one evc_ne evc_lit evc_z fold_evc bec_size bec_one bec_lit bec_ne bec_at bec_in spC_size spC_one nwC_size nwC_one nwC_ne nwC_set0 nwC_set1 nwC_lit bec_set0 bec_set1 bec_set2 bec_set3 spC_set0 spC_set1 spC_lit fold_spC spC_ne fold_nwC fold_bec fold_at vs_size vs_one ic_size ic_get
attribute [local simp ↓] heap_drew heap_drewN heap_alloc heap_past heap_setCell heap_putRow heap_setB
attribute [local simp] rowCell_some rowFrozen_some rowHas_some rowIn_some rowPart_full rowPart_lit rowPut_full rowPut_lit rowSet_some size_putRow size_setB fit_all putRow_new ne_size1 ne_size2 ne_size3 ne_size4 evc_size bec_size spC_size nwC_size vs_size fit_le
section
variable {α : Type} {enc : α → List Value} {k bytes : Nat} {P : Program} {t ty e : TypeId} {z : Value}
/-- 'append([]T{}, x...)', the empty row at eb. -/
theorem clone18 (E : Elt P t e k bytes z enc) {w0 w : World} {q eb : Nat} {A : Option Addr} {n c : Nat} {ys : List α} (h0 : Chg [] w0 w) (hq : Old w0 q) (hE : w.heap[eb]? = some (.cells #[] e (0, 0))) (he : w0.heap.size ≤ eb)
    (hs : Sl w k A n (cat enc ys)) (hm : ys.length = n) (hB : n * bytes ≤ 140737488355328) (h63 : n ≤ maxLen) :
    ∃ (be' cap' : Nat) (A' : Option Addr) (w' : World), appR P t ty #[.slice (some ⟨eb, 0, none⟩) 0 0, .slice A n c] w = .ok (.slice A' n cap') w' ∧ Vec k e enc w' q be' A' cap' ys ∧ w0.heap.size ≤ be' ∧ Chg [] w0 w' ∧ Chg [eb] w w' := by
  have hne : eb ≠ q := by have := hq.lt; omega
  have hv : Vec k e enc w q eb (some ⟨eb, 0, none⟩) 0 ([] : List α) := .inr ⟨hne, rfl, by simp, [], by rw [hE]; rfl, by simp⟩
  obtain ⟨be', cap', A', w', h1, h2, h3, h4, h5⟩ := hv.app (ty := ty) E (hq.chg h0) hs (c := c) hm (by simpa using hB) (by simpa using h63)
  simp only [List.length_nil, Nat.zero_add, List.nil_append] at h1 h2
  refine ⟨be', cap', A', w', h1, h2, ?_, h0.trans' h4 (by intro x hx; rw [List.mem_singleton] at hx; exact .inr (by omega)), h4⟩
  rcases h3 with h3 | h3
  · omega
  · have := h0.size; omega
/-- .. and one more behind it. -/
theorem snoc18 (E : Elt P t e k bytes z enc) {w0 w : World} {q be b : Nat} {A : Option Addr} {n cap : Nat} {ys : List α} {y : α} (h0 : Chg [] w0 w) (hq : Old w0 q) (hv : Vec k e enc w q be A cap ys) (hbe : w0.heap.size ≤ be)
    (hm : ys.length = n) (hy : w.heap[b]? = some (.cells (enc y).toArray e (0, 0))) (hB : (n + 1) * bytes ≤ 140737488355328) (h63 : n + 1 ≤ maxLen) :
    ∃ (be' cap' : Nat) (A' : Option Addr) (w' : World), appR P t ty #[.slice A n cap, .slice (some ⟨b, 0, none⟩) 1 1] w = .ok (.slice A' (n + 1) cap') w' ∧ Vec k e enc w' q be' A' cap' (ys ++ [y]) ∧ w0.heap.size ≤ be' ∧ Chg [] w0 w' := by
  subst hm
  have hs : Sl w k (some ⟨b, 0, none⟩) 1 (cat enc [y]) := ⟨by rw [cat_length E.len]; rfl, .inr ⟨b, 0, _, e, (0, 0), rfl, hy, by rw [cat_one]; simp [E.len, List.take_of_length_le]⟩⟩
  obtain ⟨be', cap', A', w', h1, h2, h3, h4, h5⟩ := hv.app (ty := ty) E (hq.chg h0) hs (c := 1) rfl hB h63
  refine ⟨be', cap', A', w', h1, h2, ?_, h0.trans' h4 (by intro x hx; rw [List.mem_singleton] at hx; exact .inr (by omega))⟩
  rcases h3 with h3 | h3
  · omega
  · have := h0.size; omega
end
/-- A remainder, as 'Mod' reckons it. -/
def modn18 (a : Int) (n : Nat) : Nat := (a % (n : Int)).toNat
theorem modn18_lt (a : Int) (n : Nat) (h : 0 < n) : modn18 a n < n := by
  have h1 := Int.emod_nonneg a (show (n : Int) ≠ 0 by omega)
  have h2 := Int.emod_lt_of_pos a (show (0 : Int) < (n : Int) by omega)
  unfold modn18; omega
theorem mod18_ok (a : Int) (n : Nat) (h1 : 1 ≤ n) (h2 : n ≤ 1000000) (w : World) : Calls Try.prog 13 #[.int .i64 a, .int .i64 n] w fun e w' => e = .returned (.int .i64 (modn18 a n)) ∧ w = w' := by
  have hn0 : (n : Int) ≠ 0 := by omega
  have g1 : (1 : Int) ≤ (n : Int) := by omega
  have g2 : (n : Int) ≤ 1000000 := by omega
  have b1 : -(n : Int) < a.tmod n := by
    have := Int.lt_tmod_of_pos a (show (0 : Int) < (n : Int) by omega)
    omega
  have b2 : a.tmod n < (n : Int) := Int.tmod_lt_of_pos a (by omega)
  have hm : (modn18 a n : Int) = (a.tmod n + n) % n := by
    unfold modn18
    rw [Int.toNat_of_nonneg (Int.emod_nonneg a hn0), Int.add_emod_right]
    exact (Int.emod_eq_emod_iff_emod_sub_eq_zero).2 (by
      have := Int.mul_tdiv_add_tmod a n
      have h3 : a - a.tmod n = n * a.tdiv n := by omega
      rw [h3]; exact Int.mul_emod_right _ _)
  have HM := Lib.hid hm
  have w1 : IntKind.i64.wrap (a.tmod n + n) = a.tmod n + n := IntWalk.i64_in _ (by omega)
  have w2 : 0 ≤ a.tmod n + n := by omega
  have w3 : IntKind.i64.wrap (a.tmod n) = a.tmod n := IntWalk.i64_in _ (by omega)
  clear hm
  go_enter Try.func13, Try.ntmps13
  go_wp2
  go_ret
  exact ⟨by rw [HM.out]; rfl, rfl⟩
end Go.Proofs.Ytnocekhgabgffaa
