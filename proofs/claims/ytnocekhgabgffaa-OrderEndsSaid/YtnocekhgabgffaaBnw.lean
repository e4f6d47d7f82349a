/- A bus of an image that is made: walked. No condition. -/
import Derived.Test.YtnocekhgabgffaaBup
namespace Go.Proofs.Ytnocekhgabgffaa
open Go.RowKit
set_option linter.unusedVariables false
set_option maxHeartbeats 1000000

set_option maxRecDepth 100000
attribute [local go_sem ↓] append_appS copy_copS clear_clrS make_mkS slice_slS lookup_lookS mput_mputS del_mdelS cell_row frozen_row heap_drew heap_drewN heap_alloc heap_past heap_setCell heap_putRow heap_setB loadEv storeEv loadBe storeBe loadSp storeSp loadNw storeNw loadLine storeLine evc_kd evc_co evc_li evc_wo evc_va bec_fl bec_li bec_wo bec_va nwC_0 nwC_1 spC_0 spC_1
attribute [local go_sem] rowCell_some rowFrozen_some rowHas_some rowIn_some rowPart_full rowPart_lit rowPut_full rowPut_lit rowSet_some size_putRow size_setB run_loadS run_storeS run_appS run_copS run_clrS run_mkS run_slS run_lookS run_mputS run_mdelS loadW_at storeW_at fit_all fit_le one_int one_bool one_pointer one_slice allOne_list putRow_new ne_size1 ne_size2 ne_size3 ne_size4 wideEv wideBe wideSp wideNw wideLine evc_size evc_one evc_ne evc_lit evc_z fold_evc bec_size bec_one bec_lit bec_ne bec_at bec_in spC_size spC_one nwC_size nwC_one nwC_ne nwC_set0 nwC_set1 nwC_lit bec_set0 bec_set1 bec_set2 bec_set3 spC_set0 spC_set1 spC_lit fold_spC spC_ne fold_nwC fold_bec fold_at vs_size vs_one ic_size ic_get
attribute [local simp ↓] heap_drew heap_drewN heap_alloc heap_past heap_setCell heap_putRow heap_setB
attribute [local simp] rowCell_some rowFrozen_some rowHas_some rowIn_some rowPart_full rowPart_lit rowPut_full rowPut_lit rowSet_some size_putRow size_setB fit_all putRow_new ne_size1 ne_size2 ne_size3 ne_size4 evc_size bec_size spC_size nwC_size vs_size fit_le
attribute [local go_sem ↓] loadCf storeCf
attribute [local go_sem] wideCf
attribute [local go_sem ↓] build_bldS
attribute [local go_sem] run_bldS
/-- A bus of an image. -/
def bs1 (n m v : Nat) (X : List Int) : Bs := ⟨v, X, X, List.replicate n 0, List.replicate m bcZ⟩
/-- The lines of a new bus: those of the image that do not forget. -/
def imgX (n v : Nat) (img : List Int) : List Int := forget (splice (List.replicate (n * 8) 0) 0 img) v
theorem spl_len {n : Nat} {img : List Int} (h : img.length ≤ n * 8) : (splice (List.replicate (n * 8) 0) 0 img).length = n * 8 := by
  unfold splice; simp; omega
theorem imgX_len {n v : Nat} {img : List Int} (h : img.length ≤ n * 8) (hv : v ≤ n) : (imgX n v img).length = n * 8 := by
  unfold imgX
  rw [forget_length _ _ (by rw [spl_len h]; omega), spl_len h]
theorem imgX_none {n v : Nat} (h : v ≤ n) : imgX n v [] = List.replicate (n * 8) 0 := by
  unfold imgX splice
  simp only [List.take_zero, List.nil_append, List.length_nil, Nat.add_zero, List.drop_zero]
  exact forget_zeros n v h
theorem copy_img (w : World) (b n c k ck : Nat) (A : Option Addr) (img : List Int) (hs : Sl w 8 A k (img.map (Value.int .u64))) (hk : k ≤ n) (C : List Int) (hC : C.length = n * 8) (hb : w.heap[b]? = some (.cells (bk C []) 44 (0, 0))) (ty : TypeId) : copR Try.prog 24 24 ty #[.slice (some ⟨b, 0, none⟩) n c, .slice A k ck] w = .ok (.int .i64 k) (putRow w b 0 (vs img)) := by
  obtain ⟨i0, hi0, hz0, hz1, hz2⟩ := info_parts line_info
  have hl : img.length = k * 8 := by simpa using hs.1
  have := run_copy_sl (P := Try.prog) (t := 24) (t' := 24) (ty := ty) Try.underlying24 hi0 w b 0 A k ck n c (img.map (Value.int .u64)) (by rw [hz1]; exact hs) hk (bk_one img) (by rw [hb, rowHas_some, bk_size]; simp [Fit]; omega)
  exact this
theorem put_img {w : World} {b n : Nat} {C img : List Int} (hl : img.length ≤ C.length) (hb : w.heap[b]? = some (.cells (bk C []) 44 (0, 0))) : (putRow w b 0 (vs img)).heap[b]? = some (.cells (bk (splice C 0 img) []) 44 (0, 0)) := by
  rw [heap_putRow _ _ _ _ _ (by rw [vs_size, hb, rowHas_some, bk_size]; simp [Fit]; omega), if_pos rfl, hb]
  have := rowPut_bk (xs := C) (l := img) (i := 0) (by unfold Fit; omega) [] 44 (0, 0)
  rw [Nat.zero_mul] at this
  rw [this]
  simp [lnPut]
theorem newB1 {n m v : Nat} {X : List Int} {W w2 w5 w6 w7 w8 : World} {q bp bc bm kb bl cl : Nat} {L : List (Nat × Nat)} {r : List Value} (NP : NewP n m v w2 w5 q bp bc bm L) (hL : L.length = m) (hW : Chg [] W w2) (hkb : w5.heap.size = kb) (d6 : Chg [q] w5 w6) (d7 : Chg [kb] w6 w7) (c8 : Chg [] w7 w8)
    (hk7 : w7.heap[kb]? = some (.cells (bk X []) 44 (0, 0))) (hl8 : w8.heap[bl]? = some (.cells (X.map (Value.int .u64) ++ r).toArray 44 (0, 0))) (hge : w7.heap.size ≤ bl)
    (hq8 : w8.heap[q]? = some (.cells #[.int .i64 v, .slice none 0 0, .slice (some ⟨kb, 0, none⟩) n n, .slice (some ⟨bp, 0, none⟩) n n, .slice (some ⟨bc, 0, none⟩) m m, .map (some bm)] 89 (0, 0))) :
    BusM n m (w8.setCell ⟨q, 1, none⟩ (.slice (some ⟨bl, 0, none⟩) n cl)) q ([q, bl, kb, bp, bc, bm] ++ pairs L) (bs1 n m v X) ∧ (∀ z ∈ [q, bl, kb, bp, bc, bm] ++ pairs L, W.heap.size ≤ z) ∧ Chg [] W (w8.setCell ⟨q, 1, none⟩ (.slice (some ⟨bl, 0, none⟩) n cl)) := by
  have d9 : Chg [q] w8 (w8.setCell ⟨q, 1, none⟩ (.slice (some ⟨bl, 0, none⟩) n cl)) := (Chg.refl [q] w8).setCell _ _ _ (.inl (by simp))
  have hq9 : (w8.setCell ⟨q, 1, none⟩ (.slice (some ⟨bl, 0, none⟩) n cl)).heap[q]? = some (.cells (busc v bl cl n kb bp bc m bm) 89 (0, 0)) := by
    rw [heap_setCell, if_pos rfl, hq8, rowSet_some]; rfl
  generalize w8.setCell ⟨q, 1, none⟩ (.slice (some ⟨bl, 0, none⟩) n cl) = w9 at *
  have hnd := NP.nd
  have hnew := NP.new
  have hs2 := hW.size
  rw [List.nodup_append] at hnd
  obtain ⟨e1, e2, e3⟩ := hnd
  simp only [List.nodup_cons, List.mem_cons, List.not_mem_nil, or_false, not_or, List.nodup_nil, not_false_eq_true, and_true] at e1
  obtain ⟨⟨f1, f2, f3⟩, ⟨f4, f5⟩, f6⟩ := e1
  have o1 := lt_heap NP.hq
  have o2 := lt_heap NP.hp
  have o3 := lt_heap NP.hb
  have o4 : bm < w5.heap.size := by obtain ⟨o, ho, _⟩ := NP.hm; exact lt_heap ho
  have o5 : ∀ z ∈ pairs L, z < w5.heap.size ∧ w2.heap.size ≤ z := fun z hz => ⟨lt_heap (NP.maps z hz), hnew z (by simp [hz])⟩
  have o6 := d6.size
  have o8 := lt_heap hk7
  have o7 := d7.size
  have n1 := hnew q (by simp)
  have n2 := hnew bp (by simp)
  have n3 := hnew bc (by simp)
  have n4 := hnew bm (by simp)
  have hs5 := NP.chg.size
  have D : Chg [q, kb] w5 w9 := ((d6.mono (by simp)).trans (d7.mono (by simp))).trans ((c8.mono (by simp)).trans (d9.mono (by simp)))
  have hkp : ∀ z, z < w5.heap.size → z ≠ q → z ∉ [q, kb] := fun z h1 h2 => by simp; omega
  refine ⟨⟨bl, cl, kb, bp, bc, bm, L.map cxZ, L.map (fun p => [p.1, p.2]), List.Perm.refl _, ?_, hq9, ⟨r, ?_⟩, ?_, D.keep NP.hp (hkp _ o2 (Ne.symm f1)), ?_, NP.hm.keep D (hkp _ o4 (Ne.symm f3)), by simp [hL], by simp [bs1], by simp [hL], ?_⟩, fun z hz => ?_, ?_⟩
  · rw [List.nodup_append]
    refine ⟨?_, e2, fun x hx y hy => ?_⟩
    · simp only [List.nodup_cons, List.mem_cons, List.not_mem_nil, or_false, not_or, List.nodup_nil, not_false_eq_true, and_true]
      refine ⟨⟨by omega, by omega, f1, f2, f3⟩, ⟨by omega, by omega, by omega, by omega⟩, ⟨by omega, by omega, by omega⟩, ⟨f4, f5⟩, f6⟩
    · have h5 := o5 y hy
      have h3 : ∀ x ∈ [q, bp, bc, bm], x ≠ y := fun x hx => e3 x hx y hy
      simp only [List.mem_cons, List.not_mem_nil, or_false, forall_eq_or_imp, forall_eq] at h3
      simp only [List.mem_cons, List.not_mem_nil, or_false] at hx
      rcases hx with rfl | rfl | rfl | rfl | rfl | rfl <;> omega
  · exact d9.keep hl8 (by simp; omega)
  · exact d9.keep (c8.keep hk7 (by simp)) (by simp; omega)
  · have := D.keep NP.hb (hkp _ o3 (Ne.symm f2))
    rw [czs_all hL] at this
    exact this
  · intro i x g c h1 h2 h3
    obtain ⟨u, hu, rfl⟩ : ∃ u, L[i]? = some u ∧ cxZ u = x := by simpa [List.getElem?_map, Option.map_eq_some_iff] using h1
    have h2' : [u.1, u.2] = g := by rw [List.getElem?_map, hu] at h2; simpa using h2
    have h3' : bcZ = c := by
      simp only [bs1] at h3
      rw [List.getElem?_replicate] at h3
      split at h3
      · simpa using h3
      · cases h3
    subst h2' h3'
    have hm : ∀ z ∈ [u.1, u.2], w9.heap[z]? = some (.map #[] 0) := fun z hz => by
      have hz' : z ∈ pairs L := List.mem_flatten.2 ⟨_, List.mem_map.2 ⟨u, List.mem_of_getElem? hu, rfl⟩, hz⟩
      exact D.keep (NP.maps z hz') (hkp z (o5 z hz').1 (fun e => e3 q (by simp) z hz' e.symm))
    exact bcZ_com (hm u.1 (by simp)) (hm u.2 (by simp))
  · rcases List.mem_append.1 hz with hz | hz
    · simp only [List.mem_cons, List.not_mem_nil, or_false] at hz
      rcases hz with rfl | rfl | rfl | rfl | rfl | rfl <;> omega
    · have := o5 z hz; omega
  · exact (hW.trans NP.chg).trans' D (fun z hz => by simp only [List.mem_cons, List.not_mem_nil, or_false] at hz; rcases hz with rfl | rfl <;> exact .inr (by omega))
theorem bnew_im0 (A : Option Addr) (ck : Nat) (img : List Int) (m n v : Nat) (c3 c4 c5 c6 : Int) (hg : goodB m n v c3 c4 c5 c6 = true) (W : World) (hA : Sl W 8 A 0 (img.map (Value.int .u64))) : Calls Try.prog 22 #[.agg #[.int .i64 m, .int .i64 n, .int .i64 v, .int .i64 c3, .int .i64 c4, .int .i64 c5, .int .i64 c6], .slice A 0 ck] W fun e w' => ∃ q F, e = .returned (.tuple #[.pointer (some ⟨q, 0, none⟩), .int .i64 0]) ∧ BusM n m w' q F (bs1 n m v (imgX n v img)) ∧ (∀ z ∈ F, W.heap.size ≤ z) ∧ Chg [] W w' := by
  have hgd := fun w => good_any m n v c3 c4 c5 c6 w
  rw [hg] at hgd
  have hg' := of_decide_eq_true hg
  obtain ⟨a1, a2, a3, a4, a5, a6, _⟩ := hg'
  have hm8 : m ≤ 8 := by omega
  have hn64 : n ≤ 64 := by omega
  have hmp := fun w => run_make_ints w n hn64
  have hml := fun w => run_make_lines w n hn64
  clear hg
  have hil : img.length = 0 * 8 := by simpa using hA.1
  have HIL := Lib.hid hil
  have HA := Lib.hid hA
  clear hil hA
  go_enter Try.func22, Try.ntmps22
  obtain ⟨n1, n2⟩ := one_new W (.cells #[.int .i64 m, .int .i64 n, .int .i64 v, .int .i64 c3, .int .i64 c4, .int .i64 c5, .int .i64 c6] 23)
  have N2 := Lib.hid n2
  clear n2
  go_upto_region 1 with fail
  generalize W.alloc (.cells #[.int .i64 m, .int .i64 n, .int .i64 v, .int .i64 c3, .int .i64 c4, .int .i64 c5, .int .i64 c6] 23) = w1 at *
  generalize W.heap.size = p at *
  go_upto_region 3 with (go_at_call 32; refine (hgd _).mono ?_; rintro e w' ⟨rfl, hw'⟩; have cw : Chg [] w1 w' := by { rw [hw']; exact (Chg.refl [] w1).alloc _ }; clear hw'; have n3 := cw.keep n1 (by simp); have CW := Lib.hid cw; clear cw)
  have N3 := Lib.hid (N2.out.trans CW.out)
  have hv1 : 0 < v := by omega
  have hvn : v < n := by omega
  clear N2 CW n1 hgd a1 a2 a3 a4 a5 a6
  generalize w' = w2 at *
  clear hml
  go_region_held3 (fun w' => w'.heap[p]? = some (Obj.cells #[.int .i64 m, .int .i64 n, .int .i64 v, .int .i64 c3, .int .i64 c4, .int .i64 c5, .int .i64 c6] 23 (0, 0))) (first | exact n3 | exact n4 | exact n5 | (rw [heap_drew, n3]) | (rw [heap_drew, n4]) | (rw [heap_drew, heap_alloc, n3]; rfl) | (rw [heap_alloc, n3]; rfl) | (rw [heap_drew, heap_alloc, n4]; rfl) | (rw [heap_alloc, n4]; rfl) | (rw [heap_drew, heap_alloc, n5]; rfl) | (rw [heap_alloc, n5]; rfl) | (rw [heap_alloc, heap_alloc, n5]; rfl) | (rw [heap_alloc, heap_drew, heap_alloc, n5]; rfl) | (rw [heap_alloc, heap_drew, n5]; rfl) | (rw [heap_alloc, heap_alloc, n4]; rfl) | (rw [heap_alloc, heap_drew, heap_alloc, n4]; rfl))
    (first | (go_at_call 33; refine (newcores_any m hm8 _).mono ?_; rintro e u1 ⟨bc, L, rfl, hL, hC⟩; have n4 : u1.heap[p]? = some (Obj.cells #[.int .i64 m, .int .i64 n, .int .i64 v, .int .i64 c3, .int .i64 c4, .int .i64 c5, .int .i64 c6] 23 (0, 0)) := hC.chg.keep (by first | with_reducible exact n3 | (rw [heap_drew, n3]) | (rw [heap_drew, heap_alloc, n3]; rfl) | (rw [heap_alloc, n3]; rfl)) (by simp); have HC := Lib.hid hC; have HL := Lib.hid hL; clear hC hL) | (go_at_call 34; refine (kinds_any _).mono ?_; rintro e u2 ⟨bm, rfl, hK, hk0, hk1⟩; have n5 : u2.heap[p]? = some (Obj.cells #[.int .i64 m, .int .i64 n, .int .i64 v, .int .i64 c3, .int .i64 c4, .int .i64 c5, .int .i64 c6] 23 (0, 0)) := hk1.keep (by first | with_reducible exact n4 | (rw [heap_drew, n4]) | (rw [heap_drew, heap_alloc, n4]; rfl) | (rw [heap_alloc, n4]; rfl)) (by simp); have HK := Lib.hid hK; have HK0 := Lib.hid hk0; have HK1 := Lib.hid hk1; clear hK hk0 hk1))
  · have NP := Lib.hid (newP1 (v := v) HC.out HK.out HK0.out HK1.out)
    have n6 := ((Chg.refl [] u2).alloc (.cells #[.int .i64 v, .slice none 0 0, .slice none 0 0, .slice (some ⟨w2.heap.size, 0, none⟩) n n, .slice (some ⟨bc, 0, none⟩) m m, .map (some bm)] 89)).keep n5 (by simp)
    clear HC HK HK0 HK1 n4 n5
    generalize u2.alloc (.cells #[.int .i64 v, .slice none 0 0, .slice none 0 0, .slice (some ⟨w2.heap.size, 0, none⟩) n n, .slice (some ⟨bc, 0, none⟩) m m, .map (some bm)] 89) = w5 at *
    generalize u2.heap.size = q at *
    generalize w2.heap.size = bp at *
    have hpq : p ≠ q := by have := lt_heap n3; have := NP.out.new q (by simp); omega
    have hq := NP.out.hq
    have oq := old hq
    have op := old n6
    have hml := fun w => run_make_lines w n hn64
    go_upto_region 5 with fail
    have hk6 : ((w5.alloc (Obj.cells (bk (List.replicate (n * 8) 0) []) 44)).setCell { block := q, off := 2 } (Value.slice (some { block := w5.heap.size, off := 0 }) n n)).heap[w5.heap.size]? = some (.cells (bk (List.replicate (n * 8) 0) []) 44 (0, 0)) := by
      rw [heap_setCell, if_neg (by have := oq.lt; omega)]; exact (MapKept.heap_alloc w5 _).1
    have hq6 : ((w5.alloc (Obj.cells (bk (List.replicate (n * 8) 0) []) 44)).setCell { block := q, off := 2 } (Value.slice (some { block := w5.heap.size, off := 0 }) n n)).heap[q]? = some (.cells #[.int .i64 v, .slice none 0 0, .slice (some ⟨w5.heap.size, 0, none⟩) n n, .slice (some ⟨bp, 0, none⟩) n n, .slice (some ⟨bc, 0, none⟩) m m, .map (some bm)] 89 (0, 0)) := by
      rw [heap_setCell, if_pos rfl, ((Chg.refl [] w5).alloc _).keep hq (by simp), rowSet_some]; rfl
    have d6 : Chg [q] w5 ((w5.alloc (Obj.cells (bk (List.replicate (n * 8) 0) []) 44)).setCell { block := q, off := 2 } (Value.slice (some { block := w5.heap.size, off := 0 }) n n)) := ((Chg.refl [q] w5).alloc _).setCell _ _ _ (.inl (by simp))
    generalize (w5.alloc (Obj.cells (bk (List.replicate (n * 8) 0) []) 44)).setCell { block := q, off := 2 } (Value.slice (some { block := w5.heap.size, off := 0 }) n n) = w6 at *
    have n7 := d6.keep n6 (by simpa using hpq)
    have hkl := Lib.hid (show ∀ z, Old w5 z → z ≠ w5.heap.size from fun z hz e => by have := hz.lt; omega)
    have hkge := Lib.hid (Nat.le_refl w5.heap.size)
    generalize hkb : w5.heap.size = kb at *
    have hpk : p ≠ kb := hkl.out p op
    have hqk : q ≠ kb := hkl.out q oq
    have D6 := Lib.hid d6
    have HKB := Lib.hid hkb
    have c6 : Chg [] W w6 := (N3.out.trans NP.out.chg).trans' D6.out (fun z hz => .inr (by simp only [List.mem_singleton] at hz; subst hz; exact Nat.le_trans N3.out.size (NP.out.new z (by simp))))
    have hcp := fun ty => copy_img w6 kb n n 0 ck A img (HA.out.chg c6 (by simp)) (by omega) (List.replicate (n * 8) 0) (by simp) hk6 ty
    have C6 := Lib.hid c6
    clear c6
    clear hq n6 d6 hml hkb oq op
    go_upto_region 6 with fail
    have hkc := put_img (n := n) (img := img) (by rw [HIL.out, List.length_replicate]; omega) hk6
    have dc : Chg [kb] w6 (putRow w6 kb 0 (vs img)) := (Chg.refl [kb] w6).putRow _ _ _ (.inl (by simp))
    have hqc := dc.keep hq6 (by simpa using hqk)
    have hpc := dc.keep n7 (by simpa using hpk)
    have DC := Lib.hid dc
    clear hcp hk6 hq6 n7 dc
    generalize putRow w6 kb 0 (vs img) = w6b at *
    have hst := slR_to kb n n v (by omega) (Nat.le_refl _)
    have hfit : rowHas (w6b.drew.heap[kb]?) 0 (v * 8) = true := by rw [heap_drew, hkc, rowHas_some, bk_size, spl_len (by rw [HIL.out]; omega)]; simp [Fit]; omega
    have hcl := fun ty => clear_lines w6b.drew kb v n ty hv1 hfit
    have hk7 : (putRow w6b.drew kb 0 (vs (List.replicate (v * 8) 0))).heap[kb]? = some (.cells (bk (imgX n v img) []) 44 (0, 0)) := by
      rw [heap_putRow _ _ _ _ _ (by rw [vs_size, List.length_replicate]; exact hfit), if_pos rfl, heap_drew, hkc, rowPut_forget _ _ (by rw [spl_len (by rw [HIL.out]; omega)]; omega)]; rfl
    have d7 : Chg [kb] w6b (putRow w6b.drew kb 0 (vs (List.replicate (v * 8) 0))) := ((Chg.refl [kb] w6b).drew).putRow _ _ _ (.inl (by simp))
    have hv0 : (v : Int) ≤ (n : Int) := by omega
    go_region
    generalize putRow w6b.drew kb 0 (vs (List.replicate (v * 8) 0)) = w7 at *
    have hq7 := d7.keep hqc (by simpa using hqk)
    have D7 := Lib.hid d7
    have hsl := Sl.of_bk (n := n) hk7 (imgX_len (by rw [HIL.out]; omega) (by omega))
    have oq7 := old hq7
    clear hcl hfit hqc hkc hst hpc d7
    go_wp2_with (go_at_call 31; refine (clone_ok _ n n _ w7 hsl (by omega) (by omega)).mono ?_; rintro e w8 ⟨bl, cl, r, rfl, hl8, hge8, hcap, c8⟩; have hq8 := c8.keep hq7 (by simp); have HL8 := Lib.hid hl8; have HGE := Lib.hid hge8; have C8 := Lib.hid c8; clear hl8 hge8 c8)
    go_ret2
    exact ⟨q, _, rfl, newB1 NP.out HL.out N3.out HKB.out D6.out (DC.out.trans D7.out) C8.out hk7 HL8.out HGE.out hq8⟩
  · have NP := Lib.hid (newP2 (v := v) HC.out HK.out HK0.out HK1.out)
    have n6 := ((Chg.refl [] u2).alloc (.cells #[.int .i64 v, .slice none 0 0, .slice none 0 0, .slice (some ⟨u1.heap.size, 0, none⟩) n n, .slice (some ⟨bc, 0, none⟩) m m, .map (some bm)] 89)).keep n5 (by simp)
    clear HC HK HK0 HK1 n4 n5
    generalize u2.alloc (.cells #[.int .i64 v, .slice none 0 0, .slice none 0 0, .slice (some ⟨u1.heap.size, 0, none⟩) n n, .slice (some ⟨bc, 0, none⟩) m m, .map (some bm)] 89) = w5 at *
    generalize u2.heap.size = q at *
    generalize u1.heap.size = bp at *
    have hpq : p ≠ q := by have := lt_heap n3; have := NP.out.new q (by simp); omega
    have hq := NP.out.hq
    have oq := old hq
    have op := old n6
    have hml := fun w => run_make_lines w n hn64
    go_upto_region 5 with fail
    have hk6 : ((w5.alloc (Obj.cells (bk (List.replicate (n * 8) 0) []) 44)).setCell { block := q, off := 2 } (Value.slice (some { block := w5.heap.size, off := 0 }) n n)).heap[w5.heap.size]? = some (.cells (bk (List.replicate (n * 8) 0) []) 44 (0, 0)) := by
      rw [heap_setCell, if_neg (by have := oq.lt; omega)]; exact (MapKept.heap_alloc w5 _).1
    have hq6 : ((w5.alloc (Obj.cells (bk (List.replicate (n * 8) 0) []) 44)).setCell { block := q, off := 2 } (Value.slice (some { block := w5.heap.size, off := 0 }) n n)).heap[q]? = some (.cells #[.int .i64 v, .slice none 0 0, .slice (some ⟨w5.heap.size, 0, none⟩) n n, .slice (some ⟨bp, 0, none⟩) n n, .slice (some ⟨bc, 0, none⟩) m m, .map (some bm)] 89 (0, 0)) := by
      rw [heap_setCell, if_pos rfl, ((Chg.refl [] w5).alloc _).keep hq (by simp), rowSet_some]; rfl
    have d6 : Chg [q] w5 ((w5.alloc (Obj.cells (bk (List.replicate (n * 8) 0) []) 44)).setCell { block := q, off := 2 } (Value.slice (some { block := w5.heap.size, off := 0 }) n n)) := ((Chg.refl [q] w5).alloc _).setCell _ _ _ (.inl (by simp))
    generalize (w5.alloc (Obj.cells (bk (List.replicate (n * 8) 0) []) 44)).setCell { block := q, off := 2 } (Value.slice (some { block := w5.heap.size, off := 0 }) n n) = w6 at *
    have n7 := d6.keep n6 (by simpa using hpq)
    have hkl := Lib.hid (show ∀ z, Old w5 z → z ≠ w5.heap.size from fun z hz e => by have := hz.lt; omega)
    have hkge := Lib.hid (Nat.le_refl w5.heap.size)
    generalize hkb : w5.heap.size = kb at *
    have hpk : p ≠ kb := hkl.out p op
    have hqk : q ≠ kb := hkl.out q oq
    have D6 := Lib.hid d6
    have HKB := Lib.hid hkb
    have c6 : Chg [] W w6 := (N3.out.trans NP.out.chg).trans' D6.out (fun z hz => .inr (by simp only [List.mem_singleton] at hz; subst hz; exact Nat.le_trans N3.out.size (NP.out.new z (by simp))))
    have hcp := fun ty => copy_img w6 kb n n 0 ck A img (HA.out.chg c6 (by simp)) (by omega) (List.replicate (n * 8) 0) (by simp) hk6 ty
    have C6 := Lib.hid c6
    clear c6
    clear hq n6 d6 hml hkb oq op
    go_upto_region 6 with fail
    have hkc := put_img (n := n) (img := img) (by rw [HIL.out, List.length_replicate]; omega) hk6
    have dc : Chg [kb] w6 (putRow w6 kb 0 (vs img)) := (Chg.refl [kb] w6).putRow _ _ _ (.inl (by simp))
    have hqc := dc.keep hq6 (by simpa using hqk)
    have hpc := dc.keep n7 (by simpa using hpk)
    have DC := Lib.hid dc
    clear hcp hk6 hq6 n7 dc
    generalize putRow w6 kb 0 (vs img) = w6b at *
    have hst := slR_to kb n n v (by omega) (Nat.le_refl _)
    have hfit : rowHas (w6b.drew.heap[kb]?) 0 (v * 8) = true := by rw [heap_drew, hkc, rowHas_some, bk_size, spl_len (by rw [HIL.out]; omega)]; simp [Fit]; omega
    have hcl := fun ty => clear_lines w6b.drew kb v n ty hv1 hfit
    have hk7 : (putRow w6b.drew kb 0 (vs (List.replicate (v * 8) 0))).heap[kb]? = some (.cells (bk (imgX n v img) []) 44 (0, 0)) := by
      rw [heap_putRow _ _ _ _ _ (by rw [vs_size, List.length_replicate]; exact hfit), if_pos rfl, heap_drew, hkc, rowPut_forget _ _ (by rw [spl_len (by rw [HIL.out]; omega)]; omega)]; rfl
    have d7 : Chg [kb] w6b (putRow w6b.drew kb 0 (vs (List.replicate (v * 8) 0))) := ((Chg.refl [kb] w6b).drew).putRow _ _ _ (.inl (by simp))
    have hv0 : (v : Int) ≤ (n : Int) := by omega
    go_region
    generalize putRow w6b.drew kb 0 (vs (List.replicate (v * 8) 0)) = w7 at *
    have hq7 := d7.keep hqc (by simpa using hqk)
    have D7 := Lib.hid d7
    have hsl := Sl.of_bk (n := n) hk7 (imgX_len (by rw [HIL.out]; omega) (by omega))
    have oq7 := old hq7
    clear hcl hfit hqc hkc hst hpc d7
    go_wp2_with (go_at_call 31; refine (clone_ok _ n n _ w7 hsl (by omega) (by omega)).mono ?_; rintro e w8 ⟨bl, cl, r, rfl, hl8, hge8, hcap, c8⟩; have hq8 := c8.keep hq7 (by simp); have HL8 := Lib.hid hl8; have HGE := Lib.hid hge8; have C8 := Lib.hid c8; clear hl8 hge8 c8)
    go_ret2
    exact ⟨q, _, rfl, newB1 NP.out HL.out N3.out HKB.out D6.out (DC.out.trans D7.out) C8.out hk7 HL8.out HGE.out hq8⟩
  · have NP := Lib.hid (newP3 (n := n) (v := v) HC.out HK.out HK0.out HK1.out)
    have n6 := (((Chg.refl [] u2).alloc (.cells (ic (List.replicate n 0)) 3)).alloc (.cells #[.int .i64 v, .slice none 0 0, .slice none 0 0, .slice (some ⟨u2.heap.size, 0, none⟩) n n, .slice (some ⟨bc, 0, none⟩) m m, .map (some bm)] 89)).keep n5 (by simp)
    clear HC HK HK0 HK1 n4 n5
    generalize (u2.alloc (.cells (ic (List.replicate n 0)) 3)).alloc (.cells #[.int .i64 v, .slice none 0 0, .slice none 0 0, .slice (some ⟨u2.heap.size, 0, none⟩) n n, .slice (some ⟨bc, 0, none⟩) m m, .map (some bm)] 89) = w5 at *
    generalize u2.heap.size + 1 = q at *
    generalize u2.heap.size = bp at *
    have hpq : p ≠ q := by have := lt_heap n3; have := NP.out.new q (by simp); omega
    have hq := NP.out.hq
    have oq := old hq
    have op := old n6
    have hml := fun w => run_make_lines w n hn64
    go_upto_region 5 with fail
    have hk6 : ((w5.alloc (Obj.cells (bk (List.replicate (n * 8) 0) []) 44)).setCell { block := q, off := 2 } (Value.slice (some { block := w5.heap.size, off := 0 }) n n)).heap[w5.heap.size]? = some (.cells (bk (List.replicate (n * 8) 0) []) 44 (0, 0)) := by
      rw [heap_setCell, if_neg (by have := oq.lt; omega)]; exact (MapKept.heap_alloc w5 _).1
    have hq6 : ((w5.alloc (Obj.cells (bk (List.replicate (n * 8) 0) []) 44)).setCell { block := q, off := 2 } (Value.slice (some { block := w5.heap.size, off := 0 }) n n)).heap[q]? = some (.cells #[.int .i64 v, .slice none 0 0, .slice (some ⟨w5.heap.size, 0, none⟩) n n, .slice (some ⟨bp, 0, none⟩) n n, .slice (some ⟨bc, 0, none⟩) m m, .map (some bm)] 89 (0, 0)) := by
      rw [heap_setCell, if_pos rfl, ((Chg.refl [] w5).alloc _).keep hq (by simp), rowSet_some]; rfl
    have d6 : Chg [q] w5 ((w5.alloc (Obj.cells (bk (List.replicate (n * 8) 0) []) 44)).setCell { block := q, off := 2 } (Value.slice (some { block := w5.heap.size, off := 0 }) n n)) := ((Chg.refl [q] w5).alloc _).setCell _ _ _ (.inl (by simp))
    generalize (w5.alloc (Obj.cells (bk (List.replicate (n * 8) 0) []) 44)).setCell { block := q, off := 2 } (Value.slice (some { block := w5.heap.size, off := 0 }) n n) = w6 at *
    have n7 := d6.keep n6 (by simpa using hpq)
    have hkl := Lib.hid (show ∀ z, Old w5 z → z ≠ w5.heap.size from fun z hz e => by have := hz.lt; omega)
    have hkge := Lib.hid (Nat.le_refl w5.heap.size)
    generalize hkb : w5.heap.size = kb at *
    have hpk : p ≠ kb := hkl.out p op
    have hqk : q ≠ kb := hkl.out q oq
    have D6 := Lib.hid d6
    have HKB := Lib.hid hkb
    have c6 : Chg [] W w6 := (N3.out.trans NP.out.chg).trans' D6.out (fun z hz => .inr (by simp only [List.mem_singleton] at hz; subst hz; exact Nat.le_trans N3.out.size (NP.out.new z (by simp))))
    have hcp := fun ty => copy_img w6 kb n n 0 ck A img (HA.out.chg c6 (by simp)) (by omega) (List.replicate (n * 8) 0) (by simp) hk6 ty
    have C6 := Lib.hid c6
    clear c6
    clear hq n6 d6 hml hkb oq op
    go_upto_region 6 with fail
    have hkc := put_img (n := n) (img := img) (by rw [HIL.out, List.length_replicate]; omega) hk6
    have dc : Chg [kb] w6 (putRow w6 kb 0 (vs img)) := (Chg.refl [kb] w6).putRow _ _ _ (.inl (by simp))
    have hqc := dc.keep hq6 (by simpa using hqk)
    have hpc := dc.keep n7 (by simpa using hpk)
    have DC := Lib.hid dc
    clear hcp hk6 hq6 n7 dc
    generalize putRow w6 kb 0 (vs img) = w6b at *
    have hst := slR_to kb n n v (by omega) (Nat.le_refl _)
    have hfit : rowHas (w6b.drew.heap[kb]?) 0 (v * 8) = true := by rw [heap_drew, hkc, rowHas_some, bk_size, spl_len (by rw [HIL.out]; omega)]; simp [Fit]; omega
    have hcl := fun ty => clear_lines w6b.drew kb v n ty hv1 hfit
    have hk7 : (putRow w6b.drew kb 0 (vs (List.replicate (v * 8) 0))).heap[kb]? = some (.cells (bk (imgX n v img) []) 44 (0, 0)) := by
      rw [heap_putRow _ _ _ _ _ (by rw [vs_size, List.length_replicate]; exact hfit), if_pos rfl, heap_drew, hkc, rowPut_forget _ _ (by rw [spl_len (by rw [HIL.out]; omega)]; omega)]; rfl
    have d7 : Chg [kb] w6b (putRow w6b.drew kb 0 (vs (List.replicate (v * 8) 0))) := ((Chg.refl [kb] w6b).drew).putRow _ _ _ (.inl (by simp))
    have hv0 : (v : Int) ≤ (n : Int) := by omega
    go_region
    generalize putRow w6b.drew kb 0 (vs (List.replicate (v * 8) 0)) = w7 at *
    have hq7 := d7.keep hqc (by simpa using hqk)
    have D7 := Lib.hid d7
    have hsl := Sl.of_bk (n := n) hk7 (imgX_len (by rw [HIL.out]; omega) (by omega))
    have oq7 := old hq7
    clear hcl hfit hqc hkc hst hpc d7
    go_wp2_with (go_at_call 31; refine (clone_ok _ n n _ w7 hsl (by omega) (by omega)).mono ?_; rintro e w8 ⟨bl, cl, r, rfl, hl8, hge8, hcap, c8⟩; have hq8 := c8.keep hq7 (by simp); have HL8 := Lib.hid hl8; have HGE := Lib.hid hge8; have C8 := Lib.hid c8; clear hl8 hge8 c8)
    go_ret2
    exact ⟨q, _, rfl, newB1 NP.out HL.out N3.out HKB.out D6.out (DC.out.trans D7.out) C8.out hk7 HL8.out HGE.out hq8⟩
theorem bnew_imn (A : Option Addr) (ck : Nat) (img : List Int) (m n v : Nat) (c3 c4 c5 c6 : Int) (hg : goodB m n v c3 c4 c5 c6 = true) (W : World) (hA : Sl W 8 A n (img.map (Value.int .u64))) : Calls Try.prog 22 #[.agg #[.int .i64 m, .int .i64 n, .int .i64 v, .int .i64 c3, .int .i64 c4, .int .i64 c5, .int .i64 c6], .slice A n ck] W fun e w' => ∃ q F, e = .returned (.tuple #[.pointer (some ⟨q, 0, none⟩), .int .i64 0]) ∧ BusM n m w' q F (bs1 n m v (imgX n v img)) ∧ (∀ z ∈ F, W.heap.size ≤ z) ∧ Chg [] W w' := by
  have hgd := fun w => good_any m n v c3 c4 c5 c6 w
  rw [hg] at hgd
  have hg' := of_decide_eq_true hg
  obtain ⟨a1, a2, a3, a4, a5, a6, _⟩ := hg'
  have hm8 : m ≤ 8 := by omega
  have hn64 : n ≤ 64 := by omega
  have hmp := fun w => run_make_ints w n hn64
  have hml := fun w => run_make_lines w n hn64
  clear hg
  have hil : img.length = n * 8 := by simpa using hA.1
  have HIL := Lib.hid hil
  have HA := Lib.hid hA
  clear hil hA
  have t1 : ((n : Int) != 0) = true := by simp; omega
  have t2 : ((n : Int) != (n : Int)) = false := by simp
  go_enter Try.func22, Try.ntmps22
  obtain ⟨n1, n2⟩ := one_new W (.cells #[.int .i64 m, .int .i64 n, .int .i64 v, .int .i64 c3, .int .i64 c4, .int .i64 c5, .int .i64 c6] 23)
  have N2 := Lib.hid n2
  clear n2
  go_upto_region 1 with fail
  generalize W.alloc (.cells #[.int .i64 m, .int .i64 n, .int .i64 v, .int .i64 c3, .int .i64 c4, .int .i64 c5, .int .i64 c6] 23) = w1 at *
  generalize W.heap.size = p at *
  go_upto_region 3 with (go_at_call 32; refine (hgd _).mono ?_; rintro e w' ⟨rfl, hw'⟩; have cw : Chg [] w1 w' := by { rw [hw']; exact (Chg.refl [] w1).alloc _ }; clear hw'; have n3 := cw.keep n1 (by simp); have CW := Lib.hid cw; clear cw)
  have N3 := Lib.hid (N2.out.trans CW.out)
  have hv1 : 0 < v := by omega
  have hvn : v < n := by omega
  clear N2 CW n1 hgd a1 a2 a3 a4 a5 a6
  generalize w' = w2 at *
  clear hml
  go_region_held3 (fun w' => w'.heap[p]? = some (Obj.cells #[.int .i64 m, .int .i64 n, .int .i64 v, .int .i64 c3, .int .i64 c4, .int .i64 c5, .int .i64 c6] 23 (0, 0))) (first | exact n3 | exact n4 | exact n5 | (rw [heap_drew, n3]) | (rw [heap_drew, n4]) | (rw [heap_drew, heap_alloc, n3]; rfl) | (rw [heap_alloc, n3]; rfl) | (rw [heap_drew, heap_alloc, n4]; rfl) | (rw [heap_alloc, n4]; rfl) | (rw [heap_drew, heap_alloc, n5]; rfl) | (rw [heap_alloc, n5]; rfl) | (rw [heap_alloc, heap_alloc, n5]; rfl) | (rw [heap_alloc, heap_drew, heap_alloc, n5]; rfl) | (rw [heap_alloc, heap_drew, n5]; rfl) | (rw [heap_alloc, heap_alloc, n4]; rfl) | (rw [heap_alloc, heap_drew, heap_alloc, n4]; rfl))
    (first | (go_at_call 33; refine (newcores_any m hm8 _).mono ?_; rintro e u1 ⟨bc, L, rfl, hL, hC⟩; have n4 : u1.heap[p]? = some (Obj.cells #[.int .i64 m, .int .i64 n, .int .i64 v, .int .i64 c3, .int .i64 c4, .int .i64 c5, .int .i64 c6] 23 (0, 0)) := hC.chg.keep (by first | with_reducible exact n3 | (rw [heap_drew, n3]) | (rw [heap_drew, heap_alloc, n3]; rfl) | (rw [heap_alloc, n3]; rfl)) (by simp); have HC := Lib.hid hC; have HL := Lib.hid hL; clear hC hL) | (go_at_call 34; refine (kinds_any _).mono ?_; rintro e u2 ⟨bm, rfl, hK, hk0, hk1⟩; have n5 : u2.heap[p]? = some (Obj.cells #[.int .i64 m, .int .i64 n, .int .i64 v, .int .i64 c3, .int .i64 c4, .int .i64 c5, .int .i64 c6] 23 (0, 0)) := hk1.keep (by first | with_reducible exact n4 | (rw [heap_drew, n4]) | (rw [heap_drew, heap_alloc, n4]; rfl) | (rw [heap_alloc, n4]; rfl)) (by simp); have HK := Lib.hid hK; have HK0 := Lib.hid hk0; have HK1 := Lib.hid hk1; clear hK hk0 hk1))
  · have NP := Lib.hid (newP1 (v := v) HC.out HK.out HK0.out HK1.out)
    have n6 := ((Chg.refl [] u2).alloc (.cells #[.int .i64 v, .slice none 0 0, .slice none 0 0, .slice (some ⟨w2.heap.size, 0, none⟩) n n, .slice (some ⟨bc, 0, none⟩) m m, .map (some bm)] 89)).keep n5 (by simp)
    clear HC HK HK0 HK1 n4 n5
    generalize u2.alloc (.cells #[.int .i64 v, .slice none 0 0, .slice none 0 0, .slice (some ⟨w2.heap.size, 0, none⟩) n n, .slice (some ⟨bc, 0, none⟩) m m, .map (some bm)] 89) = w5 at *
    generalize u2.heap.size = q at *
    generalize w2.heap.size = bp at *
    have hpq : p ≠ q := by have := lt_heap n3; have := NP.out.new q (by simp); omega
    have hq := NP.out.hq
    have oq := old hq
    have op := old n6
    have hml := fun w => run_make_lines w n hn64
    go_upto_region 5 with fail
    have hk6 : ((w5.alloc (Obj.cells (bk (List.replicate (n * 8) 0) []) 44)).setCell { block := q, off := 2 } (Value.slice (some { block := w5.heap.size, off := 0 }) n n)).heap[w5.heap.size]? = some (.cells (bk (List.replicate (n * 8) 0) []) 44 (0, 0)) := by
      rw [heap_setCell, if_neg (by have := oq.lt; omega)]; exact (MapKept.heap_alloc w5 _).1
    have hq6 : ((w5.alloc (Obj.cells (bk (List.replicate (n * 8) 0) []) 44)).setCell { block := q, off := 2 } (Value.slice (some { block := w5.heap.size, off := 0 }) n n)).heap[q]? = some (.cells #[.int .i64 v, .slice none 0 0, .slice (some ⟨w5.heap.size, 0, none⟩) n n, .slice (some ⟨bp, 0, none⟩) n n, .slice (some ⟨bc, 0, none⟩) m m, .map (some bm)] 89 (0, 0)) := by
      rw [heap_setCell, if_pos rfl, ((Chg.refl [] w5).alloc _).keep hq (by simp), rowSet_some]; rfl
    have d6 : Chg [q] w5 ((w5.alloc (Obj.cells (bk (List.replicate (n * 8) 0) []) 44)).setCell { block := q, off := 2 } (Value.slice (some { block := w5.heap.size, off := 0 }) n n)) := ((Chg.refl [q] w5).alloc _).setCell _ _ _ (.inl (by simp))
    generalize (w5.alloc (Obj.cells (bk (List.replicate (n * 8) 0) []) 44)).setCell { block := q, off := 2 } (Value.slice (some { block := w5.heap.size, off := 0 }) n n) = w6 at *
    have n7 := d6.keep n6 (by simpa using hpq)
    have hkl := Lib.hid (show ∀ z, Old w5 z → z ≠ w5.heap.size from fun z hz e => by have := hz.lt; omega)
    have hkge := Lib.hid (Nat.le_refl w5.heap.size)
    generalize hkb : w5.heap.size = kb at *
    have hpk : p ≠ kb := hkl.out p op
    have hqk : q ≠ kb := hkl.out q oq
    have D6 := Lib.hid d6
    have HKB := Lib.hid hkb
    have c6 : Chg [] W w6 := (N3.out.trans NP.out.chg).trans' D6.out (fun z hz => .inr (by simp only [List.mem_singleton] at hz; subst hz; exact Nat.le_trans N3.out.size (NP.out.new z (by simp))))
    have hcp := fun ty => copy_img w6 kb n n n ck A img (HA.out.chg c6 (by simp)) (by omega) (List.replicate (n * 8) 0) (by simp) hk6 ty
    have C6 := Lib.hid c6
    clear c6
    clear hq n6 d6 hml hkb oq op
    go_upto_region 6 with fail
    have hkc := put_img (n := n) (img := img) (by rw [HIL.out, List.length_replicate]; omega) hk6
    have dc : Chg [kb] w6 (putRow w6 kb 0 (vs img)) := (Chg.refl [kb] w6).putRow _ _ _ (.inl (by simp))
    have hqc := dc.keep hq6 (by simpa using hqk)
    have hpc := dc.keep n7 (by simpa using hpk)
    have DC := Lib.hid dc
    clear hcp hk6 hq6 n7 dc
    generalize putRow w6 kb 0 (vs img) = w6b at *
    have hst := slR_to kb n n v (by omega) (Nat.le_refl _)
    have hfit : rowHas (w6b.drew.heap[kb]?) 0 (v * 8) = true := by rw [heap_drew, hkc, rowHas_some, bk_size, spl_len (by rw [HIL.out]; omega)]; simp [Fit]; omega
    have hcl := fun ty => clear_lines w6b.drew kb v n ty hv1 hfit
    have hk7 : (putRow w6b.drew kb 0 (vs (List.replicate (v * 8) 0))).heap[kb]? = some (.cells (bk (imgX n v img) []) 44 (0, 0)) := by
      rw [heap_putRow _ _ _ _ _ (by rw [vs_size, List.length_replicate]; exact hfit), if_pos rfl, heap_drew, hkc, rowPut_forget _ _ (by rw [spl_len (by rw [HIL.out]; omega)]; omega)]; rfl
    have d7 : Chg [kb] w6b (putRow w6b.drew kb 0 (vs (List.replicate (v * 8) 0))) := ((Chg.refl [kb] w6b).drew).putRow _ _ _ (.inl (by simp))
    have hv0 : (v : Int) ≤ (n : Int) := by omega
    go_region
    generalize putRow w6b.drew kb 0 (vs (List.replicate (v * 8) 0)) = w7 at *
    have hq7 := d7.keep hqc (by simpa using hqk)
    have D7 := Lib.hid d7
    have hsl := Sl.of_bk (n := n) hk7 (imgX_len (by rw [HIL.out]; omega) (by omega))
    have oq7 := old hq7
    clear hcl hfit hqc hkc hst hpc d7
    go_wp2_with (go_at_call 31; refine (clone_ok _ n n _ w7 hsl (by omega) (by omega)).mono ?_; rintro e w8 ⟨bl, cl, r, rfl, hl8, hge8, hcap, c8⟩; have hq8 := c8.keep hq7 (by simp); have HL8 := Lib.hid hl8; have HGE := Lib.hid hge8; have C8 := Lib.hid c8; clear hl8 hge8 c8)
    go_ret2
    exact ⟨q, _, rfl, newB1 NP.out HL.out N3.out HKB.out D6.out (DC.out.trans D7.out) C8.out hk7 HL8.out HGE.out hq8⟩
  · have NP := Lib.hid (newP2 (v := v) HC.out HK.out HK0.out HK1.out)
    have n6 := ((Chg.refl [] u2).alloc (.cells #[.int .i64 v, .slice none 0 0, .slice none 0 0, .slice (some ⟨u1.heap.size, 0, none⟩) n n, .slice (some ⟨bc, 0, none⟩) m m, .map (some bm)] 89)).keep n5 (by simp)
    clear HC HK HK0 HK1 n4 n5
    generalize u2.alloc (.cells #[.int .i64 v, .slice none 0 0, .slice none 0 0, .slice (some ⟨u1.heap.size, 0, none⟩) n n, .slice (some ⟨bc, 0, none⟩) m m, .map (some bm)] 89) = w5 at *
    generalize u2.heap.size = q at *
    generalize u1.heap.size = bp at *
    have hpq : p ≠ q := by have := lt_heap n3; have := NP.out.new q (by simp); omega
    have hq := NP.out.hq
    have oq := old hq
    have op := old n6
    have hml := fun w => run_make_lines w n hn64
    go_upto_region 5 with fail
    have hk6 : ((w5.alloc (Obj.cells (bk (List.replicate (n * 8) 0) []) 44)).setCell { block := q, off := 2 } (Value.slice (some { block := w5.heap.size, off := 0 }) n n)).heap[w5.heap.size]? = some (.cells (bk (List.replicate (n * 8) 0) []) 44 (0, 0)) := by
      rw [heap_setCell, if_neg (by have := oq.lt; omega)]; exact (MapKept.heap_alloc w5 _).1
    have hq6 : ((w5.alloc (Obj.cells (bk (List.replicate (n * 8) 0) []) 44)).setCell { block := q, off := 2 } (Value.slice (some { block := w5.heap.size, off := 0 }) n n)).heap[q]? = some (.cells #[.int .i64 v, .slice none 0 0, .slice (some ⟨w5.heap.size, 0, none⟩) n n, .slice (some ⟨bp, 0, none⟩) n n, .slice (some ⟨bc, 0, none⟩) m m, .map (some bm)] 89 (0, 0)) := by
      rw [heap_setCell, if_pos rfl, ((Chg.refl [] w5).alloc _).keep hq (by simp), rowSet_some]; rfl
    have d6 : Chg [q] w5 ((w5.alloc (Obj.cells (bk (List.replicate (n * 8) 0) []) 44)).setCell { block := q, off := 2 } (Value.slice (some { block := w5.heap.size, off := 0 }) n n)) := ((Chg.refl [q] w5).alloc _).setCell _ _ _ (.inl (by simp))
    generalize (w5.alloc (Obj.cells (bk (List.replicate (n * 8) 0) []) 44)).setCell { block := q, off := 2 } (Value.slice (some { block := w5.heap.size, off := 0 }) n n) = w6 at *
    have n7 := d6.keep n6 (by simpa using hpq)
    have hkl := Lib.hid (show ∀ z, Old w5 z → z ≠ w5.heap.size from fun z hz e => by have := hz.lt; omega)
    have hkge := Lib.hid (Nat.le_refl w5.heap.size)
    generalize hkb : w5.heap.size = kb at *
    have hpk : p ≠ kb := hkl.out p op
    have hqk : q ≠ kb := hkl.out q oq
    have D6 := Lib.hid d6
    have HKB := Lib.hid hkb
    have c6 : Chg [] W w6 := (N3.out.trans NP.out.chg).trans' D6.out (fun z hz => .inr (by simp only [List.mem_singleton] at hz; subst hz; exact Nat.le_trans N3.out.size (NP.out.new z (by simp))))
    have hcp := fun ty => copy_img w6 kb n n n ck A img (HA.out.chg c6 (by simp)) (by omega) (List.replicate (n * 8) 0) (by simp) hk6 ty
    have C6 := Lib.hid c6
    clear c6
    clear hq n6 d6 hml hkb oq op
    go_upto_region 6 with fail
    have hkc := put_img (n := n) (img := img) (by rw [HIL.out, List.length_replicate]; omega) hk6
    have dc : Chg [kb] w6 (putRow w6 kb 0 (vs img)) := (Chg.refl [kb] w6).putRow _ _ _ (.inl (by simp))
    have hqc := dc.keep hq6 (by simpa using hqk)
    have hpc := dc.keep n7 (by simpa using hpk)
    have DC := Lib.hid dc
    clear hcp hk6 hq6 n7 dc
    generalize putRow w6 kb 0 (vs img) = w6b at *
    have hst := slR_to kb n n v (by omega) (Nat.le_refl _)
    have hfit : rowHas (w6b.drew.heap[kb]?) 0 (v * 8) = true := by rw [heap_drew, hkc, rowHas_some, bk_size, spl_len (by rw [HIL.out]; omega)]; simp [Fit]; omega
    have hcl := fun ty => clear_lines w6b.drew kb v n ty hv1 hfit
    have hk7 : (putRow w6b.drew kb 0 (vs (List.replicate (v * 8) 0))).heap[kb]? = some (.cells (bk (imgX n v img) []) 44 (0, 0)) := by
      rw [heap_putRow _ _ _ _ _ (by rw [vs_size, List.length_replicate]; exact hfit), if_pos rfl, heap_drew, hkc, rowPut_forget _ _ (by rw [spl_len (by rw [HIL.out]; omega)]; omega)]; rfl
    have d7 : Chg [kb] w6b (putRow w6b.drew kb 0 (vs (List.replicate (v * 8) 0))) := ((Chg.refl [kb] w6b).drew).putRow _ _ _ (.inl (by simp))
    have hv0 : (v : Int) ≤ (n : Int) := by omega
    go_region
    generalize putRow w6b.drew kb 0 (vs (List.replicate (v * 8) 0)) = w7 at *
    have hq7 := d7.keep hqc (by simpa using hqk)
    have D7 := Lib.hid d7
    have hsl := Sl.of_bk (n := n) hk7 (imgX_len (by rw [HIL.out]; omega) (by omega))
    have oq7 := old hq7
    clear hcl hfit hqc hkc hst hpc d7
    go_wp2_with (go_at_call 31; refine (clone_ok _ n n _ w7 hsl (by omega) (by omega)).mono ?_; rintro e w8 ⟨bl, cl, r, rfl, hl8, hge8, hcap, c8⟩; have hq8 := c8.keep hq7 (by simp); have HL8 := Lib.hid hl8; have HGE := Lib.hid hge8; have C8 := Lib.hid c8; clear hl8 hge8 c8)
    go_ret2
    exact ⟨q, _, rfl, newB1 NP.out HL.out N3.out HKB.out D6.out (DC.out.trans D7.out) C8.out hk7 HL8.out HGE.out hq8⟩
  · have NP := Lib.hid (newP3 (n := n) (v := v) HC.out HK.out HK0.out HK1.out)
    have n6 := (((Chg.refl [] u2).alloc (.cells (ic (List.replicate n 0)) 3)).alloc (.cells #[.int .i64 v, .slice none 0 0, .slice none 0 0, .slice (some ⟨u2.heap.size, 0, none⟩) n n, .slice (some ⟨bc, 0, none⟩) m m, .map (some bm)] 89)).keep n5 (by simp)
    clear HC HK HK0 HK1 n4 n5
    generalize (u2.alloc (.cells (ic (List.replicate n 0)) 3)).alloc (.cells #[.int .i64 v, .slice none 0 0, .slice none 0 0, .slice (some ⟨u2.heap.size, 0, none⟩) n n, .slice (some ⟨bc, 0, none⟩) m m, .map (some bm)] 89) = w5 at *
    generalize u2.heap.size + 1 = q at *
    generalize u2.heap.size = bp at *
    have hpq : p ≠ q := by have := lt_heap n3; have := NP.out.new q (by simp); omega
    have hq := NP.out.hq
    have oq := old hq
    have op := old n6
    have hml := fun w => run_make_lines w n hn64
    go_upto_region 5 with fail
    have hk6 : ((w5.alloc (Obj.cells (bk (List.replicate (n * 8) 0) []) 44)).setCell { block := q, off := 2 } (Value.slice (some { block := w5.heap.size, off := 0 }) n n)).heap[w5.heap.size]? = some (.cells (bk (List.replicate (n * 8) 0) []) 44 (0, 0)) := by
      rw [heap_setCell, if_neg (by have := oq.lt; omega)]; exact (MapKept.heap_alloc w5 _).1
    have hq6 : ((w5.alloc (Obj.cells (bk (List.replicate (n * 8) 0) []) 44)).setCell { block := q, off := 2 } (Value.slice (some { block := w5.heap.size, off := 0 }) n n)).heap[q]? = some (.cells #[.int .i64 v, .slice none 0 0, .slice (some ⟨w5.heap.size, 0, none⟩) n n, .slice (some ⟨bp, 0, none⟩) n n, .slice (some ⟨bc, 0, none⟩) m m, .map (some bm)] 89 (0, 0)) := by
      rw [heap_setCell, if_pos rfl, ((Chg.refl [] w5).alloc _).keep hq (by simp), rowSet_some]; rfl
    have d6 : Chg [q] w5 ((w5.alloc (Obj.cells (bk (List.replicate (n * 8) 0) []) 44)).setCell { block := q, off := 2 } (Value.slice (some { block := w5.heap.size, off := 0 }) n n)) := ((Chg.refl [q] w5).alloc _).setCell _ _ _ (.inl (by simp))
    generalize (w5.alloc (Obj.cells (bk (List.replicate (n * 8) 0) []) 44)).setCell { block := q, off := 2 } (Value.slice (some { block := w5.heap.size, off := 0 }) n n) = w6 at *
    have n7 := d6.keep n6 (by simpa using hpq)
    have hkl := Lib.hid (show ∀ z, Old w5 z → z ≠ w5.heap.size from fun z hz e => by have := hz.lt; omega)
    have hkge := Lib.hid (Nat.le_refl w5.heap.size)
    generalize hkb : w5.heap.size = kb at *
    have hpk : p ≠ kb := hkl.out p op
    have hqk : q ≠ kb := hkl.out q oq
    have D6 := Lib.hid d6
    have HKB := Lib.hid hkb
    have c6 : Chg [] W w6 := (N3.out.trans NP.out.chg).trans' D6.out (fun z hz => .inr (by simp only [List.mem_singleton] at hz; subst hz; exact Nat.le_trans N3.out.size (NP.out.new z (by simp))))
    have hcp := fun ty => copy_img w6 kb n n n ck A img (HA.out.chg c6 (by simp)) (by omega) (List.replicate (n * 8) 0) (by simp) hk6 ty
    have C6 := Lib.hid c6
    clear c6
    clear hq n6 d6 hml hkb oq op
    go_upto_region 6 with fail
    have hkc := put_img (n := n) (img := img) (by rw [HIL.out, List.length_replicate]; omega) hk6
    have dc : Chg [kb] w6 (putRow w6 kb 0 (vs img)) := (Chg.refl [kb] w6).putRow _ _ _ (.inl (by simp))
    have hqc := dc.keep hq6 (by simpa using hqk)
    have hpc := dc.keep n7 (by simpa using hpk)
    have DC := Lib.hid dc
    clear hcp hk6 hq6 n7 dc
    generalize putRow w6 kb 0 (vs img) = w6b at *
    have hst := slR_to kb n n v (by omega) (Nat.le_refl _)
    have hfit : rowHas (w6b.drew.heap[kb]?) 0 (v * 8) = true := by rw [heap_drew, hkc, rowHas_some, bk_size, spl_len (by rw [HIL.out]; omega)]; simp [Fit]; omega
    have hcl := fun ty => clear_lines w6b.drew kb v n ty hv1 hfit
    have hk7 : (putRow w6b.drew kb 0 (vs (List.replicate (v * 8) 0))).heap[kb]? = some (.cells (bk (imgX n v img) []) 44 (0, 0)) := by
      rw [heap_putRow _ _ _ _ _ (by rw [vs_size, List.length_replicate]; exact hfit), if_pos rfl, heap_drew, hkc, rowPut_forget _ _ (by rw [spl_len (by rw [HIL.out]; omega)]; omega)]; rfl
    have d7 : Chg [kb] w6b (putRow w6b.drew kb 0 (vs (List.replicate (v * 8) 0))) := ((Chg.refl [kb] w6b).drew).putRow _ _ _ (.inl (by simp))
    have hv0 : (v : Int) ≤ (n : Int) := by omega
    go_region
    generalize putRow w6b.drew kb 0 (vs (List.replicate (v * 8) 0)) = w7 at *
    have hq7 := d7.keep hqc (by simpa using hqk)
    have D7 := Lib.hid d7
    have hsl := Sl.of_bk (n := n) hk7 (imgX_len (by rw [HIL.out]; omega) (by omega))
    have oq7 := old hq7
    clear hcl hfit hqc hkc hst hpc d7
    go_wp2_with (go_at_call 31; refine (clone_ok _ n n _ w7 hsl (by omega) (by omega)).mono ?_; rintro e w8 ⟨bl, cl, r, rfl, hl8, hge8, hcap, c8⟩; have hq8 := c8.keep hq7 (by simp); have HL8 := Lib.hid hl8; have HGE := Lib.hid hge8; have C8 := Lib.hid c8; clear hl8 hge8 c8)
    go_ret2
    exact ⟨q, _, rfl, newB1 NP.out HL.out N3.out HKB.out D6.out (DC.out.trans D7.out) C8.out hk7 HL8.out HGE.out hq8⟩

/-- No bus. -/
theorem bnew_bad (A : Option Addr) (k ck : Nat) (c0 c1 c2 c3 c4 c5 c6 : Int) (hg : goodB c0 c1 c2 c3 c4 c5 c6 = false ∨ (goodB c0 c1 c2 c3 c4 c5 c6 = true ∧ k ≠ 0 ∧ (k : Int) ≠ c1)) (W : World) : Calls Try.prog 22 #[.agg #[.int .i64 c0, .int .i64 c1, .int .i64 c2, .int .i64 c3, .int .i64 c4, .int .i64 c5, .int .i64 c6], .slice A k ck] W fun e w' => e = .returned (.tuple #[.pointer none, .int .i64 1]) ∧ Chg [] W w' := by
  have hgd := fun w => good_any c0 c1 c2 c3 c4 c5 c6 w
  obtain ⟨n1, n2⟩ := one_new W (.cells #[.int .i64 c0, .int .i64 c1, .int .i64 c2, .int .i64 c3, .int .i64 c4, .int .i64 c5, .int .i64 c6] 23)
  have N2 := Lib.hid n2
  clear n2
  rcases hg with hg | ⟨hg, h0, h1⟩
  · rw [hg] at hgd
    clear hg
    go_enter Try.func22, Try.ntmps22
    go_upto_region 1 with fail
    generalize W.alloc (.cells #[.int .i64 c0, .int .i64 c1, .int .i64 c2, .int .i64 c3, .int .i64 c4, .int .i64 c5, .int .i64 c6] 23) = w1 at *
    generalize W.heap.size = p at *
    go_wp2_with (go_at_call 32; refine (hgd _).mono ?_; rintro e w' ⟨rfl, hw'⟩; have cw : Chg [] w1 w' := by { rw [hw']; exact (Chg.refl [] w1).alloc _ }; clear hw'; have CW := Lib.hid cw; clear cw)
    go_ret2
    exact ⟨rfl, N2.out.trans CW.out⟩
  · rw [hg] at hgd
    clear hg
    have t1 : ((k : Int) != 0) = true := by simp; omega
    have t2 : ((k : Int) != c1) = true := by simpa using h1
    clear h0 h1
    go_enter Try.func22, Try.ntmps22
    go_upto_region 1 with fail
    generalize W.alloc (.cells #[.int .i64 c0, .int .i64 c1, .int .i64 c2, .int .i64 c3, .int .i64 c4, .int .i64 c5, .int .i64 c6] 23) = w1 at *
    generalize W.heap.size = p at *
    go_wp2_with (go_at_call 32; refine (hgd _).mono ?_; rintro e w' ⟨rfl, hw'⟩; have cw : Chg [] w1 w' := by { rw [hw']; exact (Chg.refl [] w1).alloc _ }; clear hw'; have n3 := cw.keep n1 (by simp); have CW := Lib.hid cw; clear cw)
    go_ret2
    exact ⟨rfl, N2.out.trans CW.out⟩
end Go.Proofs.Ytnocekhgabgffaa
