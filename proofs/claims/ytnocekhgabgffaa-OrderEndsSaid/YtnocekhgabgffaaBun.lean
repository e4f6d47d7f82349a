/- A bus that is made; a failure: walked. No condition. -/
import Derived.Test.YtnocekhgabgffaaBud
namespace Go.Proofs.Ytnocekhgabgffaa
open Go.RowKit
set_option linter.unusedVariables false
set_option maxHeartbeats 1000000

set_option maxRecDepth 100000
attribute [local go_sem ↓] append_appS copy_copS clear_clrS make_mkS slice_slS lookup_lookS mput_mputS del_mdelS cell_row frozen_row heap_drew heap_drewN heap_alloc heap_past heap_setCell heap_putRow heap_setB loadEv storeEv loadBe storeBe loadSp storeSp loadNw storeNw loadLine storeLine evc_kd evc_co evc_li evc_wo evc_va bec_fl bec_li bec_wo bec_va nwC_0 nwC_1 spC_0 spC_1
attribute [local go_sem] rowCell_some rowFrozen_some rowHas_some rowIn_some rowPart_full rowPart_lit rowPut_full rowPut_lit rowSet_some size_putRow size_setB run_loadS run_storeS run_appS run_copS run_clrS run_mkS run_slS run_lookS run_mputS run_mdelS loadW_at storeW_at fit_all fit_le one_int one_bool one_pointer one_slice allOne_list putRow_new ne_size1 ne_size2 ne_size3 ne_size4 wideEv wideBe wideSp wideNw wideLine evc_size evc_one evc_ne evc_lit evc_z fold_evc bec_size bec_one bec_lit bec_ne bec_at bec_in spC_size spC_one nwC_size nwC_one nwC_ne nwC_set0 nwC_set1 nwC_lit bec_set0 bec_set1 bec_set2 bec_set3 spC_set0 spC_set1 spC_lit fold_spC spC_ne fold_nwC fold_bec fold_at vs_size vs_one ic_size ic_get
attribute [local simp ↓] heap_drew heap_drewN heap_alloc heap_past heap_setCell heap_putRow heap_setB
attribute [local simp] rowCell_some rowFrozen_some rowHas_some rowIn_some rowPart_full rowPart_lit rowPut_full rowPut_lit rowSet_some size_putRow size_setB fit_all putRow_new ne_size1 ne_size2 ne_size3 ne_size4 evc_size bec_size spC_size nwC_size vs_size fit_le
/-! ### Cores that have nothing on their way -/
def czE (p : Option Nat × Option Nat) : List Value := [.slice none 0 0, .map p.1, .map p.2, .bool false, .int .i64 0, .int .i64 0, .int .i64 0, .int .i64 0, .int .u64 0]
theorem czE_len (p : Option Nat × Option Nat) : (czE p).length = 9 := rfl
theorem czE_one (p : Option Nat × Option Nat) : ∀ v ∈ czE p, v.oneCell' = true := by
  intro v hv
  simp only [czE, List.mem_cons, List.not_mem_nil, or_false] at hv
  rcases hv with rfl | rfl | rfl | rfl | rfl | rfl | rfl | rfl | rfl <;> rfl
theorem core_info : (Try.prog.info? 111).map (fun i => (i.zero, i.size, i.bytes)) = some (some (.agg (czE (none, none)).toArray), 9, 88) := by kernel_rfl
theorem made_cz (n : Nat) : madeCells (czE (none, none)).toArray (n * 9) = sq czE (List.replicate n (none, none)) [] := by
  apply Array.ext
  · rw [sq_size czE_len]
    simp [madeCells]
  · intro k h1 h2
    have hk : k < n * 9 := by simpa [madeCells] using h1
    obtain ⟨i, j, hj, rfl⟩ : ∃ i j, j < 9 ∧ k = i * 9 + j := ⟨k / 9, k % 9, Nat.mod_lt _ (by omega), by omega⟩
    have hi : i < n := by omega
    have h3 := sq_cell (enc := czE) czE_len (xs := List.replicate n (none, none)) (i := i) (a := (none, none)) (by simp [hi]) [] j hj
    rw [Array.getElem?_eq_getElem h2] at h3
    have h6 : (i * 9 + j) % 9 = j := by omega
    have h7 : (czE (none, none)).toArray.size = 9 := rfl
    apply Option.some.inj
    rw [h3]
    simp only [madeCells, Array.getElem_map, Array.getElem_range, h7, h6]
    have h5 : j = 0 ∨ j = 1 ∨ j = 2 ∨ j = 3 ∨ j = 4 ∨ j = 5 ∨ j = 6 ∨ j = 7 ∨ j = 8 := by omega
    rcases h5 with rfl | rfl | rfl | rfl | rfl | rfl | rfl | rfl | rfl <;> rfl
theorem run_make_cores (w : World) (n : Nat) (hn : n ≤ 64) : mkR Try.prog 86 (.int .i64 n) (.int .i64 n) w = .ok (.slice (some ⟨w.heap.size, 0, none⟩) n n) (w.alloc (.cells (sq czE (List.replicate n (none, none)) []) 111)) := by
  obtain ⟨i0, hi0, hz0, hz1, hz2⟩ := info_parts core_info
  have := run_make (P := Try.prog) w 86 111 i0 _ Try.underlying86 hi0 hz0 .i64 .i64 n n (by omega) (by omega) (by rw [hz2]; omega) (by omega)
  simp only [Int.toNat_natCast, hz1] at this
  rw [← made_cz]
  exact this
theorem make_sm (w : World) : (Instr.makeMap 107 none).run Try.prog w = .ok (.map (some w.heap.size)) (w.alloc (.map #[] 0)) := rfl
theorem make_tm (w : World) : (Instr.makeMap 109 none).run Try.prog w = .ok (.map (some w.heap.size)) (w.alloc (.map #[] 0)) := rfl
/-- The cores made so far: their maps. -/
def czs (L : List (Nat × Nat)) (m : Nat) : List (Option Nat × Option Nat) := L.map (fun p => (some p.1, some p.2)) ++ List.replicate (m - L.length) (none, none)
theorem czs_at {L : List (Nat × Nat)} {m : Nat} (h : L.length < m) : (czs L m)[L.length]? = some (none, none) := by
  unfold czs
  rw [List.getElem?_append_right (by simp), List.length_map, Nat.sub_self, List.getElem?_replicate, if_pos (by omega)]
theorem czs_set {L : List (Nat × Nat)} {m : Nat} (h : L.length < m) (a b : Nat) : (czs L m).set L.length (some a, some b) = czs (L ++ [(a, b)]) m := by
  unfold czs
  obtain ⟨k, hk⟩ : ∃ k, m - L.length = k + 1 := ⟨m - L.length - 1, by omega⟩
  rw [List.set_append_right _ _ (by simp), List.length_map, Nat.sub_self, hk, List.replicate_succ, List.set_cons_zero, List.map_append, List.length_append, List.length_singleton, show m - (L.length + 1) = k by omega]
  simp
def pairs (L : List (Nat × Nat)) : List Nat := (L.map fun p => [p.1, p.2]).flatten
theorem pairs_snoc (L : List (Nat × Nat)) (a b : Nat) : pairs (L ++ [(a, b)]) = pairs L ++ [a, b] := by simp [pairs]
structure Cores (W w : World) (bc m : Nat) (L : List (Nat × Nat)) : Prop where
  chg : Chg [] W w
  hb : w.heap[bc]? = some (.cells (sq czE (czs L m) []) 111 (0, 0))
  new : W.heap.size ≤ bc
  maps : ∀ z ∈ pairs L, w.heap[z]? = some (.map #[] 0) ∧ bc < z
  nd : (pairs L).Nodup
theorem cores_round {W wr : World} {bc m : Nat} {L : List (Nat × Nat)} (h : Cores W wr bc m L) (hlt : L.length < m) :
    Cores W ((((wr.alloc (Obj.map #[] 0)).setCell { block := bc, off := L.length * 9 + 1 } (Value.map (some wr.heap.size))).alloc (Obj.map #[] 0)).setCell { block := bc, off := L.length * 9 + 2 } (Value.map (some (wr.heap.size + 1)))) bc m (L ++ [(wr.heap.size, wr.heap.size + 1)]) := by
  have hz := czs_at hlt
  have s1 := sq_set9 (o := 1) (b := (some wr.heap.size, none)) (v := .map (some wr.heap.size)) czE_len hz (by omega) rfl
  have hl : L.length < (czs L m).length := (List.getElem?_eq_some_iff.1 hz).1
  have s2 := sq_set9 (o := 2) (b := (some wr.heap.size, some (wr.heap.size + 1))) (v := .map (some (wr.heap.size + 1))) czE_len (List.getElem?_set_self (a := (some wr.heap.size, (none : Option Nat))) hl) (by omega) rfl
  rw [List.set_set, czs_set hlt] at s2
  have hob := lt_heap h.hb
  have d1 : Chg [] wr (wr.alloc (Obj.map #[] 0)) := (Chg.refl [] wr).alloc _
  have a1 : (wr.alloc (Obj.map #[] 0)).heap[wr.heap.size]? = some (.map #[] 0) := (MapKept.heap_alloc wr _).1
  have z1 : (wr.alloc (Obj.map #[] 0)).heap.size = wr.heap.size + 1 := by simp
  have b1 := d1.keep h.hb (by simp)
  generalize wr.alloc (Obj.map #[] 0) = v1 at *
  have d2 : Chg [bc] v1 (v1.setCell { block := bc, off := L.length * 9 + 1 } (Value.map (some wr.heap.size))) := (Chg.refl [bc] v1).setCell _ _ _ (.inl (by simp))
  have b2 : (v1.setCell { block := bc, off := L.length * 9 + 1 } (Value.map (some wr.heap.size))).heap[bc]? = some (.cells (sq czE ((czs L m).set L.length (some wr.heap.size, none)) []) 111 (0, 0)) := by
    rw [heap_setCell, if_pos rfl, b1, rowSet_some, s1]
  have z2 : (v1.setCell { block := bc, off := L.length * 9 + 1 } (Value.map (some wr.heap.size))).heap.size = wr.heap.size + 1 := by rw [← z1]; simp
  generalize v1.setCell { block := bc, off := L.length * 9 + 1 } (Value.map (some wr.heap.size)) = v2 at *
  have d3 : Chg [] v2 (v2.alloc (Obj.map #[] 0)) := (Chg.refl [] v2).alloc _
  have a3 : (v2.alloc (Obj.map #[] 0)).heap[wr.heap.size + 1]? = some (.map #[] 0) := by rw [← z2]; exact (MapKept.heap_alloc v2 _).1
  have b3 := d3.keep b2 (by simp)
  generalize v2.alloc (Obj.map #[] 0) = v3 at *
  have d4 : Chg [bc] v3 (v3.setCell { block := bc, off := L.length * 9 + 2 } (Value.map (some (wr.heap.size + 1)))) := (Chg.refl [bc] v3).setCell _ _ _ (.inl (by simp))
  have b4 : (v3.setCell { block := bc, off := L.length * 9 + 2 } (Value.map (some (wr.heap.size + 1)))).heap[bc]? = some (.cells (sq czE (czs (L ++ [(wr.heap.size, wr.heap.size + 1)]) m) []) 111 (0, 0)) := by
    rw [heap_setCell, if_pos rfl, b3, rowSet_some, s2]
  generalize v3.setCell { block := bc, off := L.length * 9 + 2 } (Value.map (some (wr.heap.size + 1))) = v4 at *
  have D : Chg [bc] wr v4 := (((d1.mono (by simp)).trans d2).trans (d3.mono (by simp))).trans d4
  refine ⟨h.chg.trans' D (fun z hz => .inr (by simp only [List.mem_singleton] at hz; subst hz; exact h.new)), b4, h.new, fun z hz => ?_, ?_⟩
  · rw [pairs_snoc] at hz
    rcases List.mem_append.1 hz with hz | hz
    · obtain ⟨h1, h2⟩ := h.maps z hz
      exact ⟨D.keep h1 (by simp; omega), h2⟩
    · simp only [List.mem_cons, List.not_mem_nil, or_false] at hz
      rcases hz with rfl | rfl
      · exact ⟨d4.keep (d3.keep (d2.keep a1 (by simp; omega)) (by simp)) (by simp; omega), hob⟩
      · exact ⟨d4.keep a3 (by simp; omega), by omega⟩
  · rw [pairs_snoc, List.nodup_append]
    refine ⟨h.nd, by simp, fun x hx y hy => ?_⟩
    have := lt_heap (h.maps x hx).1
    simp only [List.mem_cons, List.not_mem_nil, or_false] at hy
    omega
theorem newcores_any (m : Nat) (hm : m ≤ 8) (W : World) : Calls Try.prog 33 #[.int .i64 m] W fun e w' => ∃ bc L, e = .returned (.slice (some ⟨bc, 0, none⟩) m m) ∧ L.length = m ∧ Cores W w' bc m L := by
  have hmk := run_make_cores W m (by omega)
  have hm1 : (m : Int) ≤ 8 := by omega
  have h0 : Cores W (W.alloc (.cells (sq czE (List.replicate m (none, none)) []) 111)) W.heap.size m [] := by
    refine ⟨(Chg.refl [] W).alloc _, ?_, Nat.le_refl _, by simp [pairs], by simp [pairs]⟩
    rw [(MapKept.heap_alloc W _).1]
    simp [czs]
  generalize W.alloc (.cells (sq czE (List.replicate m (none, none)) []) 111) = w1 at *
  generalize W.heap.size = bc at *
  have H0 := Lib.hid h0
  have msm := make_sm
  have mtm := make_tm
  clear h0
  go_enter Try.func33, Try.ntmps33
  go_wp2_with fail
  go_loopw [9] (fun i wr => ∃ (k : Nat) (L : List (Nat × Nat)), k ≤ m ∧ i = .int .i64 k ∧ L.length = k ∧ Cores W wr bc m L) (fun i _ => m - (intOf i).toNat)
  case atStart => exact ⟨0, [], by omega, rfl, rfl, H0.out⟩
  case round =>
    clear hmk H0
    obtain ⟨k, L, hk, rfl, hL, h1⟩ := hrel
    have H1 := Lib.hid h1
    have hb := h1.hb
    clear h1
    by_cases hlt : k < m
    · have g1 : (k : Int) < (m : Int) := by omega
      have g0 : (0 : Int) ≤ (k : Int) := by omega
      subst hL
      have hz := czs_at hlt
      have z1 := sq_cell czE_len hz [] 1 (by omega)
      have z2 := sq_cell czE_len hz [] 2 (by omega)
      have RC := Lib.hid (cores_round H1.out hlt)
      go_wp2_with fail
      go_roundw
      case rel => exact ⟨L.length + 1, L ++ [(wr.heap.size, wr.heap.size + 1)], by omega, by go_num, by simp, RC.out⟩
      case measure =>
        show m - ((L.length : Int) + 1).toNat < m - ((L.length : Int)).toNat
        omega
    · obtain rfl : k = m := by omega
      go_wp2_with fail
      go_ret
      exact ⟨bc, L, rfl, hL, H1.out⟩
/-- Such cores as a bus has them. -/
def cxZ (p : Nat × Nat) : Cx := ⟨none, 0, 0, p.1, p.2, false, evZ⟩
theorem czs_all {L : List (Nat × Nat)} {m : Nat} (h : L.length = m) : sq czE (czs L m) [] = sq Cx.enc (L.map cxZ) [] := by
  subst h
  unfold sq czs
  rw [Nat.sub_self, List.replicate_zero, List.append_nil]
  congr 2
  unfold cat
  simp only [List.append_nil, List.map_map]
  rfl
theorem bcZ_com {w : World} {p : Nat × Nat} (h1 : w.heap[p.1]? = some (.map #[] 0)) (h2 : w.heap[p.2]? = some (.map #[] 0)) : CoM w (cxZ p) [p.1, p.2] bcZ :=
  ⟨rfl, rfl, rfl, [], [], List.Perm.refl _, Vq.nil _ _ _ _, ⟨_, h1, isMap_empty _⟩, ⟨_, h2, isMap_empty _⟩, rfl, by simp⟩
theorem fail_made {n m : Nat} {w w' : World} {q : Nat} {F : List Nat} {S : Bs} {bl cl kb bp bc bm : Nat} {xs : List Cx} {G : List (List Nat)} (P : BusP n m w q F S bl cl kb bp bc bm xs G) {bc' : Nat} {L : List (Nat × Nat)} (hL : L.length = m) (hC : Cores w w' bc' m L) :
    ∃ F' xs' G', BusP n m (w'.setCell ⟨q, 4, none⟩ (.slice (some ⟨bc', 0, none⟩) m m)) q F' { S with cs := List.replicate m bcZ } bl cl kb bp bc' bm xs' G' ∧ Chg F w (w'.setCell ⟨q, 4, none⟩ (.slice (some ⟨bc', 0, none⟩) m m)) ∧ ∀ b ∈ F', b ∈ F ∨ w.heap.size ≤ b := by
  obtain ⟨hn, hg⟩ := P.ne
  have hold := P.old
  have hmem := P.mem
  simp only [List.nodup_cons, List.mem_cons, List.not_mem_nil, or_false, not_or, List.nodup_nil] at hn
  obtain ⟨⟨a1, a2, a3, a4, a5⟩, ⟨b2, b3, b4, b5⟩, ⟨c3, c4, c5⟩, ⟨d4, d5⟩, e5, _⟩ := hn
  have d1 : Chg [q] w' (w'.setCell ⟨q, 4, none⟩ (.slice (some ⟨bc', 0, none⟩) m m)) := (Chg.refl [q] w').setCell _ _ _ (.inl (by simp))
  have hq' : (w'.setCell ⟨q, 4, none⟩ (.slice (some ⟨bc', 0, none⟩) m m)).heap[q]? = some (.cells (busc S.vol bl cl n kb bp bc' m bm) 89 (0, 0)) := by
    rw [heap_setCell, if_pos rfl, hC.chg.keep P.hq (by simp), rowSet_some]
    simp [busc]
  generalize w'.setCell ⟨q, 4, none⟩ (.slice (some ⟨bc', 0, none⟩) m m) = w2 at *
  have D : Chg [q] w w2 := (hC.chg.mono (by simp)).trans d1
  have hqn : q < w.heap.size := hold q (hmem q (by simp))
  have hnew := hC.new
  have hpn : ∀ z ∈ pairs L, w.heap.size ≤ z ∧ bc' < z := fun z hz => by have := (hC.maps z hz).2; omega
  obtain ⟨r, hr⟩ := P.hl
  have hGf : (L.map fun p => [p.1, p.2]).flatten = pairs L := rfl
  refine ⟨[q, bl, kb, bp, bc', bm] ++ pairs L, L.map cxZ, L.map (fun p => [p.1, p.2]), ⟨List.Perm.refl _, ?_, hq', ⟨r, D.keep hr (by simpa using Ne.symm a1)⟩, D.keep P.hk (by simpa using Ne.symm a2), D.keep P.hp (by simpa using Ne.symm a3), ?_, P.hm.keep D (by simpa using Ne.symm a5), by simp [hL], by simp, by simp [hL], ?_⟩, D.mono (fun z hz => .inl (by simp only [List.mem_singleton] at hz; subst hz; exact hmem _ (by simp))), fun b hb => ?_⟩
  · have o1 := hold bl (hmem _ (by simp)); have o2 := hold kb (hmem _ (by simp)); have o3 := hold bp (hmem _ (by simp)); have o4 := hold bm (hmem _ (by simp))
    rw [List.nodup_append]
    refine ⟨?_, hC.nd, fun x hx y hy => ?_⟩
    · simp only [List.nodup_cons, List.mem_cons, List.not_mem_nil, or_false, not_or, List.nodup_nil, not_false_eq_true, and_true]
      refine ⟨⟨a1, a2, a3, by omega, a5⟩, ⟨b2, b3, by omega, b5⟩, ⟨c3, by omega, c5⟩, ⟨by omega, d5⟩, by omega⟩
    · have := hpn y hy
      simp only [List.mem_cons, List.not_mem_nil, or_false] at hx
      rcases hx with rfl | rfl | rfl | rfl | rfl | rfl <;> omega
  · have := d1.keep hC.hb (by simp; omega)
    rw [czs_all hL] at this
    exact this
  · intro i x g c h1 h2 h3
    obtain ⟨p, hp, rfl⟩ : ∃ p, L[i]? = some p ∧ cxZ p = x := by simpa [List.getElem?_map, Option.map_eq_some_iff] using h1
    have h2' : [p.1, p.2] = g := by rw [List.getElem?_map, hp] at h2; simpa using h2
    have h3' : bcZ = c := by
      rw [List.getElem?_replicate] at h3
      split at h3
      · simpa using h3
      · cases h3
    subst h2' h3'
    have hm : ∀ z ∈ [p.1, p.2], w2.heap[z]? = some (.map #[] 0) := fun z hz => by
      have hz' : z ∈ pairs L := List.mem_flatten.2 ⟨_, List.mem_map.2 ⟨p, List.mem_of_getElem? hp, rfl⟩, hz⟩
      exact d1.keep (hC.maps z hz').1 (by have := hpn z hz'; simp; omega)
    exact bcZ_com (hm p.1 (by simp)) (hm p.2 (by simp))
  · rcases List.mem_append.1 hb with hb | hb
    · simp only [List.mem_cons, List.not_mem_nil, or_false] at hb
      rcases hb with rfl | rfl | rfl | rfl | rfl | rfl
      · exact .inl (hmem _ (by simp))
      · exact .inl (hmem _ (by simp))
      · exact .inl (hmem _ (by simp))
      · exact .inl (hmem _ (by simp))
      · exact .inr hnew
      · exact .inl (hmem _ (by simp))
    · exact .inr (hpn b hb).1
theorem lines_len {n m N : Nat} {S : Bs} (ok : S.Ok n m N) : S.ls.length = S.ks.length := by rw [ok.ls, ok.ks]
theorem fail_ev {n m : Nat} {w : World} {q : Nat} {F : List Nat} {S : Bs} (h : BusM n m w q F S) {N : Nat} (ok : S.Ok n m N) (e : Ev) : Calls Try.prog 53 #[.pointer (some ⟨q, 0, none⟩), .agg (evc e)] w fun r w' => r = .returned (.bool true) ∧ BusTo n m w q F S.fail w' := by
  obtain ⟨bl, cl, kb, bp, bc, bm, xs, G, P0⟩ := h
  obtain ⟨n1, n2⟩ := one_new w (.cells (evc e) 41)
  have P := P0.keep n2 (by simp)
  have N2 := Lib.hid n2
  have hm8 := ok.m8
  have h64 := ok.n64
  have h0n := ok.n0
  have hls := ok.ls
  have hks := ok.ks
  have hcs := ok.cs
  clear n2 P0
  go_enter Try.func53, Try.ntmps53
  go_upto_region 1 with fail
  generalize w.alloc (.cells (evc e) 41) = w1 at *
  clear n1
  have hq := P.hq
  unfold busc at hq
  obtain ⟨r, hr⟩ := P.hl
  have hk := P.hk
  obtain ⟨i0, hi0, hz0, hz1, hz2⟩ := info_parts line_info
  have hsl := Sl.of_bk (w := w1.drew) hk hks
  have hcp : ∀ ty, copR Try.prog 24 24 ty #[.slice (some ⟨bl, 0, none⟩) n cl, .slice (some ⟨kb, 0, none⟩) n n] w1.drew = .ok (goInt n) (putRow w1.drew bl 0 (S.ks.map (Value.int .u64)).toArray) := fun ty =>
    run_copy_sl (P := Try.prog) (t := 24) (t' := 24) (ty := ty) Try.underlying24 hi0 w1.drew bl 0 _ n n n cl _ (by rw [hz1]; exact hsl) (Nat.le_refl _) (bk_one S.ks) (by
      rw [heap_drew, hr, rowHas_some, bk_size, List.length_map, hks, hls]
      exact decide_eq_true (show _ ≤ _ by omega))
  have hbl : (putRow w1.drew bl 0 (S.ks.map (Value.int .u64)).toArray).heap[bl]? = some (.cells (bk S.ks r) 44 (0, 0)) := by
    rw [heap_putRow _ _ _ _ _ (by
      rw [heap_drew, hr, rowHas_some, bk_size, hls]
      refine decide_eq_true (show _ ≤ _ from ?_)
      simp; omega), if_pos rfl, heap_drew, hr]
    have := rowPut_bk (xs := S.ls) (l := S.ks) (i := 0) (by rw [hls, hks]; unfold Fit; omega) r 44 (0, 0)
    rw [Nat.zero_mul] at this
    have e0 : lnPut S.ls 0 S.ks = S.ks := by
      unfold lnPut; rw [Nat.zero_mul, splice_all _ _ (by rw [hls, hks])]
    rw [e0] at this
    exact this
  have d2 : Chg [bl] w1 (putRow w1.drew bl 0 (S.ks.map (Value.int .u64)).toArray) := ((Chg.refl [bl] w1).drew).putRow _ _ _ (.inl (by simp))
  have HP := Lib.hid P
  have HBL := Lib.hid hbl
  clear hsl hi0 hz0 hz1 hz2 hbl hr hk P
  go_region
  have P2 := HP.out.setl d2 ⟨r, HBL.out⟩
  have hq2 := P2.hq
  unfold busc at hq2
  have D2 := Lib.hid (d2.mono (l' := F) (fun z hz => .inl (by simp only [List.mem_singleton] at hz; subst hz; exact HP.out.mem _ (by simp))))
  have oq := old hq2
  generalize putRow w1.drew bl 0 (S.ks.map (Value.int .u64)).toArray = w2 at *
  have HP2 := Lib.hid P2
  clear P2 d2 HBL hcp hq
  go_wp2_with (go_at_call 33; refine (newcores_any m hm8 _).mono ?_; rintro e w3 ⟨bc', L, rfl, hL, hC⟩; have hq3 := hC.chg.keep hq2 (by simp); have HC := Lib.hid hC; have HL := Lib.hid hL; clear hC hL)
  go_ret
  refine ⟨rfl, ?_⟩
  obtain ⟨F', xs', G', p1, p2, p3⟩ := fail_made HP2.out HL.out HC.out
  have e0 : S.fail = { ({ S with ls := S.ks } : Bs) with cs := List.replicate m bcZ } := by unfold Bs.fail; rw [hcs]
  rw [e0]
  exact ((show BusTo n m w2 q F { ({ S with ls := S.ks } : Bs) with cs := List.replicate m bcZ } _ from ⟨F', ⟨_, _, _, _, _, _, _, _, p1⟩, p2, p3⟩).on D2.out (fun b hb => .inl hb)).of N2.out
end Go.Proofs.Ytnocekhgabgffaa
