/- What a core of a bus does: walked. No condition. -/
import Derived.Test.YtnocekhgabgffaaBua
namespace Go.Proofs.Ytnocekhgabgffaa
open Go.RowKit
set_option linter.unusedVariables false
set_option maxHeartbeats 1000000

set_option maxRecDepth 100000
attribute [local go_sem ↓] append_appS copy_copS clear_clrS make_mkS slice_slS lookup_lookS mput_mputS del_mdelS cell_row frozen_row heap_drew heap_drewN heap_alloc heap_past heap_setCell heap_putRow heap_setB loadEv storeEv loadBe storeBe loadSp storeSp loadNw storeNw loadLine storeLine evc_kd evc_co evc_li evc_wo evc_va bec_fl bec_li bec_wo bec_va nwC_0 nwC_1 spC_0 spC_1
attribute [local go_sem] rowCell_some rowFrozen_some rowHas_some rowIn_some rowPart_full rowPart_lit rowPut_full rowPut_lit rowSet_some size_putRow size_setB run_loadS run_storeS run_appS run_copS run_clrS run_mkS run_slS run_lookS run_mputS run_mdelS loadW_at storeW_at fit_all fit_le one_int one_bool one_pointer one_slice allOne_list putRow_new ne_size1 ne_size2 ne_size3 ne_size4 wideEv wideBe wideSp wideNw wideLine evc_size evc_one evc_ne evc_lit evc_z fold_evc bec_size bec_one bec_lit bec_ne bec_at bec_in spC_size spC_one nwC_size nwC_one nwC_ne nwC_set0 nwC_set1 nwC_lit bec_set0 bec_set1 bec_set2 bec_set3 spC_set0 spC_set1 spC_lit fold_spC spC_ne fold_nwC fold_bec fold_at vs_size vs_one ic_size ic_get
attribute [local simp ↓] heap_drew heap_drewN heap_alloc heap_past heap_setCell heap_putRow heap_setB
attribute [local simp] rowCell_some rowFrozen_some rowHas_some rowIn_some rowPart_full rowPart_lit rowPut_full rowPut_lit rowSet_some size_putRow size_setB fit_all putRow_new ne_size1 ne_size2 ne_size3 ne_size4 evc_size bec_size spC_size nwC_size vs_size fit_le
theorem len_sent (ty : TypeId) (x : Value) : Builtin.len_ #[109] ty #[x] = lenMS 109 ty x := rfl
attribute [local go_sem ↓] len_sent
attribute [local go_sem] run_lenMS
theorem world_cut {Q : World → Prop} {W : World} (R : World → Prop) (h : R W) (k : ∀ w, R w → Q w) : Q W := k W h
theorem put_new {W : World} {r : Nat} {C cs : Array Value} {T : TypeId} (h : W.heap[r]? = some (.cells C T (0, 0))) (hs : cs.size = C.size) : (putRow W r 0 cs).heap[r]? = some (.cells cs T (0, 0)) := by
  rw [heap_putRow _ _ _ _ _ (by rw [h, rowHas_some, hs]; simp [Fit]), if_pos rfl, h, rowPut_full _ _ _ _ hs]
theorem settled_len (c : Bc) : c.settled = (((c.buf.length : Int) == 0) && ((c.tm.length : Int) == 0)) := by
  unfold Bc.settled
  cases c.buf <;> cases c.tm <;> simp <;> omega
theorem settled_any {w : World} {bc i : Nat} {xs : List Cx} {x : Cx} {g : List Nat} {c : Bc} (h : CoIn w bc i xs x g c) : Calls Try.prog 65 #[.pointer (some ⟨bc, i * 9, none⟩)] w fun e w' => e = .returned (.bool c.settled) ∧ w = w' := by
  obtain ⟨hb, hx, hco, _, _⟩ := h
  obtain ⟨c0, c1, c2, c3, c4, c5, c6, c7, c8⟩ := cx_cells hx
  obtain ⟨hn, _, _, Fb, hs, _, _, _, ⟨o, ho, hm⟩, htm, _⟩ := hco
  have hl : ∀ ty, lenMR Try.prog 109 ty (.map (some x.mt)) w = .ok (.int .i64 c.tm.length) w := by
    intro ty
    have := lenMR_at Try.underlying109 hm ty w ho
    rw [← htm]
    simpa [onA] using this
  rw [settled_len]
  rw [hn] at c0
  clear hn hm htm
  cases h1 : ((c.buf.length : Int) == 0)
  · go_enter Try.func65, Try.ntmps65
    go_wp2_with fail
    go_ret
    exact ⟨rfl, rfl⟩
  · go_enter Try.func65, Try.ntmps65
    go_wp2_with fail
    go_ret
    exact ⟨rfl, rfl⟩
theorem locks_any {w : World} {bc i : Nat} {xs : List Cx} {x : Cx} {g : List Nat} {c : Bc} (h : CoIn w bc i xs x g c) (l o : Int) : Calls Try.prog 64 #[.pointer (some ⟨bc, i * 9, none⟩), .agg (spC l o)] w fun e w' => e = .returned (.bool (c.locks l o)) ∧ Chg [] w w' := by
  obtain ⟨hb, hx, hco, _, _⟩ := h
  obtain ⟨c0, c1, c2, c3, c4, c5, c6, c7, c8⟩ := cx_cells hx
  obtain ⟨c9, c10⟩ := cx_ev hx 111 (0, 0)
  obtain ⟨_, _, hl, _⟩ := hco
  rw [hl] at c4 c9
  clear hl c0 c1 c2 c3 c5 c6 c7 c8
  have e0 : c.locks l o = (c.la.kd == 4 && decide ((c.la.li, c.la.wo) = (l, o))) := by
    unfold Bc.locks
    congr 1
    rw [Bool.eq_iff_iff]; simp
  rw [e0]
  have hs := fun w => spot_eq c.la.li c.la.wo l o w
  obtain ⟨n1, n2⟩ := one_new w (.cells (spC l o) 121)
  have hb := n2.keep hb (by simp)
  have N2 := Lib.hid n2
  clear e0 hx n2
  cases h4 : (c.la.kd == 4)
  · go_enter Try.func64, Try.ntmps64
    go_upto_region 1 with fail
    generalize w.alloc (.cells (spC l o) 121) = w1 at *
    generalize w.heap.size = q at *
    go_quiet (fail)
    go_wp2_with fail
    go_ret
    exact ⟨rfl, N2.out.drewN _⟩
  · generalize hd : decide ((c.la.li, c.la.wo) = (l, o)) = d at hs
    go_enter Try.func64, Try.ntmps64
    go_upto_region 1 with fail
    generalize w.alloc (.cells (spC l o) 121) = w1 at *
    generalize w.heap.size = q at *
    go_region_law (first | (go_simp; go_at_call 60; refine (spotof_any _ _).mono ?_; rintro v w3 ⟨rfl, c3⟩; have c4 := (Chg.refl [] w1).drew.trans c3; have hb3 := c4.keep hb (by simp); have n3 := c4.keep n1 (by simp); have C3 := Lib.hid c4; clear c3 c4))
    all_goals
      go_wp2_with fail
      go_ret
      subst hd
      exact ⟨rfl, N2.out.trans C3.out⟩
theorem field_nw (m v : Int) (w : World) : (Instr.field 118 (.agg (nwC m v)) 0).run Try.prog w = .ok (.int .i64 m) w := by kernel_rfl
theorem look_sm {ms : Nat} {sm : List ((Int × Int) × (Int × Int))} {o : Obj} (ho : IsMapO spV o (onA nwV sm)) (l wo : Int) :
    (∀ w', w'.heap[ms]? = some o → lookR Try.prog 107 (.map (some ms)) (.agg (spC l wo)) false w' = .ok (.agg (nwC (newO sm (l, wo)).1 (newO sm (l, wo)).2)) w') := by
  intro w' h
  have := lookR_at spot_keyE Try.underlying107 zero_new ho (l, wo) w' h
  rw [lookA_on] at this
  refine this.trans ?_
  unfold newO
  cases lookA (l, wo) sm <;> rfl
theorem put_sm {ms : Nat} {sm : List ((Int × Int) × (Int × Int))} {o : Obj} (ho : IsMapO spV o (onA nwV sm)) (l wo m v : Int) :
    ∃ o', IsMapO spV o' (onA nwV (putA (l, wo) (m, v) sm)) ∧ ∀ w', w'.heap[ms]? = some o → mputR Try.prog 107 (.map (some ms)) (.agg (spC l wo)) (.agg (nwC m v)) w' = .ok () (setB w' ms o') := by
  obtain ⟨o', h1, h2⟩ := mputR_at (b := ms) spot_keyE Try.underlying107 ho (l, wo) (nwV (m, v))
  rw [putA_on] at h1
  exact ⟨o', h1, h2⟩
theorem del_sm {ms : Nat} {sm : List ((Int × Int) × (Int × Int))} {o : Obj} (ho : IsMapO spV o (onA nwV sm)) (l wo : Int) (ty : TypeId) :
    ∃ o', IsMapO spV o' (onA nwV (dropA (l, wo) sm)) ∧ ∀ w', w'.heap[ms]? = some o → mdelR Try.prog #[107, 121] ty #[.map (some ms), .agg (spC l wo)] w' = .ok (.tuple #[]) (setB w' ms o') := by
  obtain ⟨o', h1, h2⟩ := mdelR_at (b := ms) spot_keyE Try.underlying107 ho (l, wo) ty 121
  rw [dropA_on] at h1
  exact ⟨o', h1, h2⟩
theorem put_any {w : World} {bc i : Nat} {xs : List Cx} {x : Cx} {g : List Nat} {c : Bc} {N : Nat} (h : CoIn w bc i xs x g c) (hs : c.Small N) (hN : N ≤ 1000000) (y : Be) :
    Calls Try.prog 71 #[.pointer (some ⟨bc, i * 9, none⟩), .agg (bec y)] w fun e w' => e = .returned (.tuple #[]) ∧ CoTo w bc i xs g (c.putE y) w' := by
  obtain ⟨n1, n2⟩ := one_new w (.cells (bec y) 125)
  have h1 := h.keep n2 (by simp) (by simp)
  have N2 := Lib.hid n2
  have hlt : ∀ b ∈ g, b ≠ w.heap.size := by
    intro b hb e
    have := (h.co.old b hb).lt
    omega
  have hbw : bc ≠ w.heap.size := by have := (old h.hb).lt; omega
  clear n2 h
  go_enter Try.func71, Try.ntmps71
  go_upto_region 1 with fail
  generalize w.alloc (.cells (bec y) 125) = w1 at *
  generalize w.heap.size = p at *
  have H1 := Lib.hid h1
  obtain ⟨hb, hx, ⟨hn, hst, hla, Fb, hs', hF, hv, ⟨om, hom, hmm⟩, ht, htm, hvt⟩, nd, nb⟩ := h1
  obtain ⟨c0, c1, c2, c3, c4, c5, c6, c7, c8⟩ := cx_cells hx
  have hne : x.ms ∈ g ∧ x.mt ∈ g := ⟨hF.mem_iff.2 (by simp), hF.mem_iff.2 (by simp)⟩
  have hFb : ∀ b ∈ Fb, b ∈ g := fun b hb => hF.mem_iff.2 (by simp [hb])
  have ca := ((Chg.refl [] w1).alloc (.cells (bec y) 125)).drew
  have hbs := hs.buf
  rw [hn] at c0
  obtain ⟨F', cap', A', w3, happ, hv3, hF3, hc3⟩ := (hv.keep ca (by simp)).app (ty := 108) eltBe (q := bc) ((old hb).chg ca) (fun h => nb (hFb _ h)) (be_sl (x := y) (w := (w1.alloc (.cells (bec y) 125)).drew) (b := w1.heap.size) (T := 125) (f := (0, 0)) (by simp)) (c := 1) rfl (by omega) (by unfold maxLen; omega)
  have hb3 := hc3.keep (ca.keep hb (by simp)) (fun h => nb (hFb _ h))
  have n3 := hc3.keep (ca.keep n1 (by simp)) (fun h => hlt p (hFb _ h) rfl)
  have hms : x.ms ∉ Fb := by
    have hnd := hF.nodup_iff.1 nd
    simp only [List.nodup_cons, List.mem_cons, List.mem_append] at hnd
    exact fun h => hnd.1 (.inr (.inl h))
  have hmn : x.ms ≠ bc := fun e => nb (e ▸ hne.1)
  have om3 := hc3.keep (ca.keep hom (by simp)) hms
  go_region
  have hb4 : (w3.setCell ⟨bc, i * 9, none⟩ (.slice A' (c.buf.length + 1) cap')).heap[bc]? = some (.cells (sq Cx.enc (xs.set i { x with A := A', n := c.buf.length + 1, cap := cap' }) []) 111 (0, 0)) := by
    rw [heap_setCell, if_pos rfl, hb3, rowSet_some, cx_n hx]
  have c4' : Chg [bc] w3 (w3.setCell ⟨bc, i * 9, none⟩ (.slice A' (c.buf.length + 1) cap')) := (Chg.refl [bc] w3).setCell _ _ _ (.inl (by simp))
  generalize w3.setCell ⟨bc, i * 9, none⟩ (.slice A' (c.buf.length + 1) cap') = w4 at *
  have n4 := c4'.keep n3 (by simpa using Ne.symm hbw)
  have om4 := c4'.keep om3 (by simpa using hmn)
  have hx4 : (xs.set i { x with A := A', n := c.buf.length + 1, cap := cap' })[i]? = some { x with A := A', n := c.buf.length + 1, cap := cap' } := by
    rw [List.getElem?_set_self ((List.getElem?_eq_some_iff.1 hx).1)]
  obtain ⟨d0, d1, d2, d3, d4, d5, d6, d7, d8⟩ := cx_cells hx4
  have esz : (w1.alloc (.cells (bec y) 125)).drew.heap.size = w1.heap.size + 1 := by
    show (w1.alloc (.cells (bec y) 125)).heap.size = _
    simp
  rw [esz] at hF3
  have K : ∀ w', Chg [x.ms] w4 w' → ∀ sm', MapAt spV w' x.ms (onA nwV sm') → CoTo w bc i xs g { c with buf := c.buf ++ [y], sm := sm' } w' := by
    intro w' hc sm' hmap
    have T1 : Chg (x.ms :: bc :: Fb) w1 w' := ((ca.mono (by simp)).trans (hc3.mono (l' := x.ms :: bc :: Fb) (fun z hz => .inl (by simp [hz])))).trans ((c4'.mono (fun z hz => .inl (by simp at hz; simp [hz]))).trans (hc.mono (fun z hz => .inl (by simp at hz; simp [hz]))))
    have hog : ∀ b ∈ g, b < w1.heap.size := fun b hb => (H1.out.co.old b hb).lt
    have hob := (old hb).lt
    have v4 : Vq 4 125 Be.enc w' F' A' cap' (c.buf ++ [y]) := (hv3.keep c4' (fun z hz => by
      rcases hF3 z hz with h | h
      · simp; exact fun e => nb (e ▸ hFb z h)
      · simp; omega)).keep hc (fun z hz => by
      rcases hF3 z hz with h | h
      · simp; exact fun e => hms (e ▸ h)
      · have := hog _ hne.1; simp; omega)
    refine (H1.out.made (buf' := c.buf ++ [y]) hF ht htm hvt T1 ?_ v4 (fun z hz => (hF3 z hz).imp id (fun h => by omega)) hmap).of N2.out
    rw [List.length_append, List.length_singleton]
    exact hc.keep hb4 (by simpa using Ne.symm hmn)
  have K9 := Lib.hid K
  have HM := Lib.hid hmm
  have hsm := hs.sm
  have OM4 := Lib.hid om4
  clear K esz hms hx4 c4' hb3 n3 hc3 hv3 hF3 hFb ca hbs happ c0 c1 c2 c3 c4 c5 c6 c7 c8 hv ht htm hvt hF hx hb hne hlt hbw d0 d2 d3 d4 d5 d6 d7 d8 n1 hom hn hst hla om3 nd nb hs hmn
  cases hf : y.fl
  · have hlk := look_sm (ms := x.ms) hmm y.li y.wo
    have hm1 : -(N : Int) ≤ (newO c.sm (y.li, y.wo)).1 ∧ (newO c.sm (y.li, y.wo)).1 ≤ N := by
      unfold newO
      cases h : lookA (y.li, y.wo) c.sm with
      | none => simp
      | some r => exact hsm _ (lookA_mem h)
    obtain ⟨hm1, hm2⟩ := hm1
    have e0 : c.putE y = { c with buf := c.buf ++ [y], sm := putA (y.li, y.wo) ((newO c.sm (y.li, y.wo)).1 + 1, y.va) c.sm } := by simp [Bc.putE, hf]
    generalize newO c.sm (y.li, y.wo) = r at *
    obtain ⟨o', ho', hput⟩ := put_sm (ms := x.ms) hmm y.li y.wo (r.1 + 1) y.va
    have hN' : (N : Int) ≤ 1000000 := by omega
    have fnw := field_nw r.1 r.2
    have c9 : Chg [x.ms] w4 (setB w4.drew x.ms o') := ((Chg.refl [x.ms] w4).drew).setB _ _ (.inl (by simp))
    have C9 := Lib.hid c9
    have HO' := Lib.hid ho'
    have E0 := Lib.hid e0
    clear c9 ho' hmm e0 hsm
    go_wp2_with fail
    go_region
    go_end0
    rw [E0.out]
    exact ⟨rfl, K9.out _ C9.out _ ⟨o', by rw [heap_setB, if_pos rfl, heap_drew, OM4.out]; rfl, HO'.out⟩⟩
  · go_wp2_with fail
    go_end0
    refine ⟨rfl, ?_⟩
    have e0 : c.putE y = { c with buf := c.buf ++ [y], sm := c.sm } := by simp [Bc.putE, hf]
    rw [e0]
    exact K9.out w4 (Chg.refl _ _) c.sm ⟨om, OM4.out, HM.out⟩
end Go.Proofs.Ytnocekhgabgffaa
