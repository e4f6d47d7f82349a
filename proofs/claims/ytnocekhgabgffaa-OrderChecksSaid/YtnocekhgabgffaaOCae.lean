/- Texts of the walk, one behind the other: Buc Bud Bun Word Wordb. No condition. -/
import Derived.Test.YtnocekhgabgffaaOCaa
import Derived.Test.YtnocekhgabgffaaOCad
import Derived.BigQuiet
import Derived.Deep.QuietTactic
import Derived.Deep.RegionHeld3
import Derived.Deep.RegionWith
import Derived.Lib.Hide
import Derived.Test.YtnocekhgabgffaaChecked
import Derived.WalkKit
section
namespace Go.Proofs.Ytnocekhgabgffaa
open Go.RowKit
set_option linter.unusedVariables false
set_option maxHeartbeats 1000000

set_option maxRecDepth 100000
attribute [local go_sem ↓] append_appS copy_copS clear_clrS make_mkS slice_slS lookup_lookS mput_mputS del_mdelS cell_row frozen_row heap_drew heap_drewN heap_alloc heap_past heap_setCell heap_putRow heap_setB loadEv storeEv loadBe storeBe loadSp storeSp loadNw storeNw loadLine storeLine evc_kd evc_co evc_li evc_wo evc_va bec_fl bec_li bec_wo bec_va nwC_0 nwC_1 spC_0 spC_1
attribute [local go_sem] rowCell_some rowFrozen_some rowHas_some rowIn_some rowPart_full rowPart_lit rowPut_full rowPut_lit rowSet_some size_putRow size_setB run_loadS run_storeS run_appS run_copS run_clrS run_mkS run_slS run_lookS run_mputS run_mdelS loadW_at storeW_at fit_all fit_le one_int one_bool one_pointer one_slice allOne_list putRow_new ne_size1 ne_size2 ne_size3 ne_size4 wideEv wideBe wideSp wideNw wideLine evc_size evc_one evc_ne evc_lit evc_z fold_evc bec_size bec_one bec_lit bec_ne bec_at bec_in spC_size spC_one nwC_size nwC_one nwC_ne nwC_set0 nwC_set1 nwC_lit bec_set0 bec_set1 bec_set2 bec_set3 spC_set0 spC_set1 spC_lit fold_spC spC_ne fold_nwC fold_bec fold_at vs_size vs_one ic_size ic_get
attribute [local simp ↓] heap_drew heap_drewN heap_alloc heap_past heap_setCell heap_putRow heap_setB
attribute [local simp] rowCell_some rowFrozen_some rowHas_some rowIn_some rowPart_full rowPart_lit rowPut_full rowPut_lit rowSet_some size_putRow size_setB fit_all putRow_new ne_size1 ne_size2 ne_size3 ne_size4 evc_size bec_size spC_size nwC_size vs_size fit_le
theorem take_any {w : World} {bc i : Nat} {xs : List Cx} {x : Cx} {g : List Nat} {c : Bc} {N : Nat} (h : CoIn w bc i xs x g c) (hs : c.Small N) (hN : N ≤ 1000000) (y : Be) :
    Calls Try.prog 62 #[.pointer (some ⟨bc, i * 9, none⟩), .agg (bec y)] w fun e w' => e = .returned (.bool (c.takeE y).isSome) ∧ ((∃ c', c.takeE y = some c' ∧ CoTo w bc i xs g c' w') ∨ (c.takeE y = none ∧ Chg [] w w')) := by
  obtain ⟨n1, n2⟩ := one_new w (.cells (bec y) 125)
  have h1 := h.keep n2 (by simp) (by simp)
  have N2 := Lib.hid n2
  have hlt : ∀ b ∈ g, b ≠ w.heap.size := by
    intro b hb e
    have := (h.co.old b hb).lt
    omega
  have hbw : bc ≠ w.heap.size := by have := (old h.hb).lt; omega
  clear n2 h
  cases hbuf : c.buf with
  | nil =>
    have e0 : c.takeE y = none := by simp [Bc.takeE, hbuf]
    rw [e0]
    go_enter Try.func62, Try.ntmps62
    go_upto_region 1 with fail
    generalize w.alloc (.cells (bec y) 125) = w1 at *
    generalize w.heap.size = p at *
    obtain ⟨hb, hx, ⟨hn, hst, hla, Fb, hs', hF, hv, ⟨om, hom, hmm⟩, ht, htm, hvt⟩, nd, nb⟩ := h1
    obtain ⟨c0, c1, c2, c3, c4, c5, c6, c7, c8⟩ := cx_cells hx
    rw [hn, hbuf] at c0
    have t0 : (((([] : List Be).length : Nat) : Int) == 0) = true := rfl
    clear hv ht hvt hmm hF hs hn hst hla
    go_quiet (fail)
    go_wp2_with fail
    go_ret
    exact ⟨by first | rfl | trivial, .inr ⟨by first | rfl | trivial, N2.out.drewN _⟩⟩
  | cons z l =>
    by_cases hzy : z = y
    · subst hzy
      have hbl := hs.buf
      have hsm := hs.sm
      rw [hbuf] at hbl
      simp only [List.length_cons] at hbl
      go_enter Try.func62, Try.ntmps62
      go_upto_region 1 with fail
      generalize w.alloc (.cells (bec z) 125) = w1 at *
      generalize w.heap.size = p at *
      have H1 := Lib.hid h1
      obtain ⟨hb, hx, ⟨hn, hst, hla, Fb, hs', hF, hv, ⟨om, hom, hmm⟩, ht, htm, hvt⟩, nd, nb⟩ := h1
      obtain ⟨c0, c1, c2, c3, c4, c5, c6, c7, c8⟩ := cx_cells hx
      have hle := hv.le
      rw [hbuf] at hv hle
      simp only [List.length_cons] at hle
      obtain ⟨be, o, C, hFe, hA, hbe, hin, hpart⟩ := hv.first Be.len
      rw [hn, hbuf, hA] at c0
      rw [← bec_enc] at hpart
      have HA := Lib.hid hA
      have e1 : (z :: l).length = l.length + 1 := rfl
      rw [e1] at c0
      have t0 : (((l.length : Nat) : Int) + 1 == 0) = false := by simp; omega
      have t1 : (0 : Int) < ((l.length : Nat) : Int) + 1 := by omega
      have hq := fun w => be_eq z z w
      rw [show decide (z = z) = true by simp] at hq
      clear hv hvt hmm hF hn hst hla hA hFe ht htm hle hom nd nb hs
      go_quiet (fail)
      have hn2 : (w1.drewN nq).heap[p]? = some (.cells (bec z) 125 (0, 0)) := by rw [heap_drewN]; exact n1
      have h2 := H1.out.keep ((Chg.refl [] w1).drewN nq) (by simp) (by simp)
      have N2' := Lib.hid (N2.out.drewN nq)
      clear c0 c1 c2 c3 c4 c5 c6 c7 c8 hb hx n1 H1 N2 hbe hin hpart
      generalize w1.drewN nq = w2 at *
      have H1 := Lib.hid h2
      obtain ⟨hb, hx, ⟨hn, hst, hla, Fb, hs', hF, hv, ⟨om, hom, hmm⟩, ht, htm, hvt⟩, nd, nb⟩ := h2
      obtain ⟨c0, c1, c2, c3, c4, c5, c6, c7, c8⟩ := cx_cells hx
      have hle := hv.le
      rw [hbuf] at hv hle
      simp only [List.length_cons] at hle
      have hv2 := hv.tail Be.len
      rw [hn, hbuf, e1] at c0
      have hne : x.ms ∈ g ∧ x.mt ∈ g := ⟨hF.mem_iff.2 (by simp), hF.mem_iff.2 (by simp)⟩
      have hFb : ∀ b ∈ Fb, b ∈ g := fun b hb => hF.mem_iff.2 (by simp [hb])
      have hms : x.ms ∉ Fb := by
        have hnd := hF.nodup_iff.1 nd
        simp only [List.nodup_cons, List.mem_cons, List.mem_append] at hnd
        exact fun h => hnd.1 (.inr (.inl h))
      have hmn : x.ms ≠ bc := fun e => nb (e ▸ hne.1)
      have hsl := fun w => slR_tail eltBe x.A l.length x.cap hle w
      go_upto_region 4 with fail
      have hb4 : (w2.setCell ⟨bc, i * 9, none⟩ (.slice (behind 4 x.A x.cap) l.length (x.cap - 1))).heap[bc]? = some (.cells (sq Cx.enc (xs.set i { x with A := behind 4 x.A x.cap, n := l.length, cap := x.cap - 1 }) []) 111 (0, 0)) := by
        rw [heap_setCell, if_pos rfl, hb, rowSet_some, cx_n hx]
      have c4' : Chg [bc] w2 (w2.setCell ⟨bc, i * 9, none⟩ (.slice (behind 4 x.A x.cap) l.length (x.cap - 1))) := (Chg.refl [bc] w2).setCell _ _ _ (.inl (by simp))
      generalize w2.setCell ⟨bc, i * 9, none⟩ (.slice (behind 4 x.A x.cap) l.length (x.cap - 1)) = w4 at *
      have n4 := c4'.keep hn2 (by simpa using Ne.symm hbw)
      have om4 := c4'.keep hom (by simpa using hmn)
      have hx4 : (xs.set i { x with A := behind 4 x.A x.cap, n := l.length, cap := x.cap - 1 })[i]? = some { x with A := behind 4 x.A x.cap, n := l.length, cap := x.cap - 1 } := by
        rw [List.getElem?_set_self ((List.getElem?_eq_some_iff.1 hx).1)]
      obtain ⟨d0, d1, d2, d3, d4, d5, d6, d7, d8⟩ := cx_cells hx4
      have K : ∀ w', Chg [x.ms] w4 w' → ∀ sm', MapAt spV w' x.ms (onA nwV sm') → CoTo w bc i xs g { c with buf := l, sm := sm' } w' := by
        intro w' hc sm' hmap
        have T0 : Chg (x.ms :: bc :: Fb) w2 w' := (c4'.mono (fun z hz => .inl (by simp at hz; simp [hz]))).trans (hc.mono (fun z hz => .inl (by simp at hz; simp [hz])))
        have T1 : Chg [x.ms, bc] w2 w' := (c4'.mono (fun z hz => .inl (by simp at hz; simp [hz]))).trans (hc.mono (fun z hz => .inl (by simp at hz; simp [hz])))
        have v4 : Vq 4 125 Be.enc w' Fb (behind 4 x.A x.cap) (x.cap - 1) l := hv2.keep T1 (fun u hu => by simp; exact ⟨fun e => hms (e ▸ hu), fun e => nb (e ▸ hFb u hu)⟩)
        refine (H1.out.made (buf' := l) hF ht htm hvt T0 ?_ v4 (fun u hu => .inl hu) hmap).of N2'.out
        exact hc.keep hb4 (by simpa using Ne.symm hmn)
      have K9 := Lib.hid K
      have HM := Lib.hid hmm
      have OM4 := Lib.hid om4
      have hmp : x.ms ≠ p := hlt _ hne.1
      clear K hv2 hv ht htm hvt hF hle hx4 hx hlt hms hst hla hFb hne c4' hbl hsl c0 c1 c2 c3 c4 c5 c6 c7 c8 d0 d2 d3 d4 d5 d6 d7 d8 t0 t1 e1 hq hb hn2 hom nd nb hn HA H1
      cases hf : z.fl
      · have hlk := look_sm (ms := x.ms) hmm z.li z.wo
        have e0 : c.takeE z = some { c with buf := l, sm := takeSm c.sm (z.li, z.wo) } := by simp [Bc.takeE, hbuf, hf]
        unfold takeSm at e0
        have hm1 : -(N : Int) ≤ (newO c.sm (z.li, z.wo)).1 ∧ (newO c.sm (z.li, z.wo)).1 ≤ N := by
          unfold newO
          cases h : lookA (z.li, z.wo) c.sm with
          | none => simp
          | some r => exact hsm _ (lookA_mem h)
        obtain ⟨hm1, hm2⟩ := hm1
        generalize newO c.sm (z.li, z.wo) = r at *
        obtain ⟨o', ho', hput⟩ := put_sm (ms := x.ms) hmm z.li z.wo (r.1 - 1) r.2
        have hN' : (N : Int) ≤ 1000000 := by omega
        have E0 := Lib.hid e0
        have HO' := Lib.hid ho'
        clear e0 ho' hsm
        go_upto_region 6 with fail
        go_region
        have b5 : (putRow (w4.alloc (.cells (nwC 0 0) 118)).drew w4.heap.size 0 (nwC r.fst r.snd)).heap[w4.heap.size]? = some (.cells (nwC r.1 r.2) 118 (0, 0)) := by
          have h0 : (w4.alloc (.cells (nwC 0 0) 118)).drew.heap[w4.heap.size]? = some (.cells (nwC 0 0) 118 (0, 0)) := (MapKept.heap_alloc w4 _).1
          rw [heap_putRow _ _ _ _ _ (by rw [h0, rowHas_some]; rfl), if_pos rfl, h0]; exact rowPut_full (nwC 0 0) _ _ (nwC r.1 r.2) (by simp [nwC_size])
        have c5 : Chg [] w4 (putRow (w4.alloc (.cells (nwC 0 0) 118)).drew w4.heap.size 0 (nwC r.fst r.snd)) := (((Chg.refl [] w4).alloc _).drew).putRow _ _ _ (.inr (Nat.le_refl _))
        have q1 : w4.heap.size ≠ x.ms := by have := lt_heap om4; omega
        have q2 : w4.heap.size ≠ bc := by have := lt_heap hb4; omega
        have q3 : w4.heap.size ≠ p := by have := lt_heap n4; omega
        generalize putRow (w4.alloc (.cells (nwC 0 0) 118)).drew w4.heap.size 0 (nwC r.fst r.snd) = w5 at *
        generalize hq5 : w4.heap.size = q5 at *
        have HQ5 := Lib.hid hq5
        clear hq5
        have n5 := c5.keep n4 (by simp)
        have om5 := c5.keep om4 (by simp)
        have hb5 := c5.keep hb4 (by simp)
        have C5 := Lib.hid c5
        clear n4 om4 hb4 c5
        go_upto_region 8 with fail
        have b6 : (w5.setCell ⟨q5, 0, none⟩ (.int .i64 (r.1 - 1))).heap[q5]? = some (.cells (nwC (r.1 - 1) r.2) 118 (0, 0)) := by rw [heap_setCell, if_pos rfl, b5, rowSet_some, nwC_set0]
        have c6 : Chg [q5] w5 (w5.setCell ⟨q5, 0, none⟩ (.int .i64 (r.1 - 1))) := (Chg.refl [q5] w5).setCell _ _ _ (.inl (by simp))
        generalize w5.setCell ⟨q5, 0, none⟩ (.int .i64 (r.1 - 1)) = w6 at *
        have n6 := c6.keep n5 (by simpa using Ne.symm q3)
        have om6 := c6.keep om5 (by simpa using Ne.symm q1)
        have hb6 := c6.keep hb5 (by simpa using Ne.symm q2)
        have C6 := Lib.hid c6
        clear n5 om5 hb5 c6 b5
        go_region
        have b7 : (setB w6.drew x.ms o').heap[q5]? = some (.cells (nwC (r.1 - 1) r.2) 118 (0, 0)) := by rw [heap_setB, if_neg q1]; exact b6
        have n7 : (setB w6.drew x.ms o').heap[p]? = some (.cells (bec z) 125 (0, 0)) := by rw [heap_setB, if_neg (Ne.symm hmp)]; exact n6
        have hb7 := (((Chg.refl [x.ms] w6).drew).setB x.ms o' (.inl (by simp))).keep hb6 (by simpa using Ne.symm hmn)
        have om7 : (setB w6.drew x.ms o').heap[x.ms]? = some o' := by rw [heap_setB, if_pos rfl, heap_drew, om6]; rfl
        have c7 : Chg [x.ms] w6 (setB w6.drew x.ms o') := ((Chg.refl [x.ms] w6).drew).setB _ _ (.inl (by simp))
        generalize setB w6.drew x.ms o' = w7 at *
        have C7 := Lib.hid c7
        have D7 : Chg [x.ms] w4 w7 := (((C5.out.trans' C6.out (by simp; have := HQ5.out; omega)).mono (by simp)).trans c7)
        have HD7 := Lib.hid D7
        have OM7 := Lib.hid om7
        clear n6 om6 hb6 b6 c7 D7 hput hlk hmm
        by_cases h0 : r.1 - 1 = 0
        · obtain ⟨o'', ho'', hdel⟩ := del_sm (ms := x.ms) HO'.out z.li z.wo 0
          have t0 : (r.1 - 1 == 0) = true := by simpa using h0
          have HO'' := Lib.hid ho''
          have HH := Lib.hid h0
          clear ho'' h0
          go_wp2_with fail
          go_region
          go_wp2_with fail
          go_ret
          rw [E0.out, if_pos HH.out]
          exact ⟨rfl, .inl ⟨_, rfl, K9.out _ (HD7.out.trans (((Chg.refl [x.ms] w7).drew).setB _ _ (.inl (by simp)))) _ ⟨o'', by rw [heap_setB, if_pos rfl, heap_drew, OM7.out]; rfl, HO''.out⟩⟩⟩
        · have t0 : (r.1 - 1 == 0) = false := by simpa using h0
          have HH := Lib.hid h0
          clear h0
          go_wp2_with fail
          go_ret
          rw [E0.out, if_neg HH.out]
          exact ⟨rfl, .inl ⟨_, rfl, K9.out w7 HD7.out _ ⟨o', OM7.out, HO'.out⟩⟩⟩
      · go_wp2_with fail
        go_ret
        have e0 : c.takeE z = some { c with buf := l, sm := c.sm } := by simp [Bc.takeE, hbuf, hf]
        rw [e0]
        exact ⟨rfl, .inl ⟨_, rfl, K9.out w4 (Chg.refl _ _) c.sm ⟨om, OM4.out, HM.out⟩⟩⟩
    · have e0 : c.takeE y = none := by simp [Bc.takeE, hbuf, hzy]
      rw [e0]
      go_enter Try.func62, Try.ntmps62
      go_upto_region 1 with fail
      generalize w.alloc (.cells (bec y) 125) = w1 at *
      generalize w.heap.size = p at *
      obtain ⟨hb, hx, ⟨hn, hst, hla, Fb, hs', hF, hv, ⟨om, hom, hmm⟩, ht, htm, hvt⟩, nd, nb⟩ := h1
      obtain ⟨c0, c1, c2, c3, c4, c5, c6, c7, c8⟩ := cx_cells hx
      have hle := hv.le
      rw [hbuf] at hv
      obtain ⟨be, o, C, hFe, hA, hbe, hin, hpart⟩ := hv.first Be.len
      rw [hn, hbuf, hA] at c0
      rw [← bec_enc] at hpart
      have t0 : ((((z :: l).length : Nat) : Int) == 0) = false := by simp; omega
      have t1 : (0 : Int) < (((z :: l).length : Nat) : Int) := by simp
      have hq := fun w => be_eq z y w
      rw [show decide (z = y) = false by simpa using hzy] at hq
      clear hv ht hvt hmm hF hs hn hst hla hA hzy hFe
      generalize (z :: l).length = n at *
      go_quiet (fail)
      go_wp2_with fail
      go_ret
      exact ⟨by first | rfl | trivial, .inr ⟨by first | rfl | trivial, N2.out.drewN _⟩⟩
end Go.Proofs.Ytnocekhgabgffaa
end
section
namespace Go.Proofs.Ytnocekhgabgffaa
open Go.RowKit
set_option linter.unusedVariables false
set_option maxHeartbeats 1000000

set_option maxRecDepth 100000
attribute [local go_sem ↓] append_appS copy_copS clear_clrS make_mkS slice_slS lookup_lookS mput_mputS del_mdelS cell_row frozen_row heap_drew heap_drewN heap_alloc heap_past heap_setCell heap_putRow heap_setB loadEv storeEv loadBe storeBe loadSp storeSp loadNw storeNw loadLine storeLine evc_kd evc_co evc_li evc_wo evc_va bec_fl bec_li bec_wo bec_va nwC_0 nwC_1 spC_0 spC_1
attribute [local go_sem] rowCell_some rowFrozen_some rowHas_some rowIn_some rowPart_full rowPart_lit rowPut_full rowPut_lit rowSet_some size_putRow size_setB run_loadS run_storeS run_appS run_copS run_clrS run_mkS run_slS run_lookS run_mputS run_mdelS loadW_at storeW_at fit_all fit_le one_int one_bool one_pointer one_slice allOne_list putRow_new ne_size1 ne_size2 ne_size3 ne_size4 wideEv wideBe wideSp wideNw wideLine evc_size evc_one evc_ne evc_lit evc_z fold_evc bec_size bec_one bec_lit bec_ne bec_at bec_in spC_size spC_one nwC_size nwC_one nwC_ne nwC_set0 nwC_set1 nwC_lit bec_set0 bec_set1 bec_set2 bec_set3 spC_set0 spC_set1 spC_lit fold_spC spC_ne fold_nwC fold_bec fold_at vs_size vs_one ic_size ic_get
attribute [local simp ↓] heap_drew heap_drewN heap_alloc heap_past heap_setCell heap_putRow heap_setB
attribute [local simp] rowCell_some rowFrozen_some rowHas_some rowIn_some rowPart_full rowPart_lit rowPut_full rowPut_lit rowSet_some size_putRow size_setB fit_all putRow_new ne_size1 ne_size2 ne_size3 ne_size4 evc_size bec_size spC_size nwC_size vs_size fit_le
/-! ### A bus in memory -/
theorem flatten_at {G : List (List Nat)} : ∀ {i : Nat} {g : List Nat}, G[i]? = some g → ∃ R, G.flatten.Perm (g ++ R) ∧ (∀ g', (G.set i g').flatten.Perm (g' ++ R)) ∧ ∀ j h, j ≠ i → G[j]? = some h → ∀ z ∈ h, z ∈ R := by
  induction G with
  | nil => intro i g h; cases h
  | cons a G ih =>
    intro i g h
    cases i with
    | zero =>
      obtain rfl : a = g := by simpa using h
      refine ⟨G.flatten, by simp, fun g' => by simp, fun j k hj hk z hz => ?_⟩
      cases j with
      | zero => exact absurd rfl hj
      | succ j => exact List.mem_flatten.2 ⟨k, List.mem_of_getElem? (by simpa using hk), hz⟩
    | succ i =>
      obtain ⟨R, h1, h2, h3⟩ := ih (by simpa using h)
      refine ⟨a ++ R, ?_, fun g' => ?_, fun j k hj hk z hz => ?_⟩
      · rw [List.flatten_cons]; exact (List.Perm.append_left _ h1).trans (by rw [← List.append_assoc, ← List.append_assoc]; exact List.Perm.append_right _ List.perm_append_comm)
      · rw [List.set_cons_succ, List.flatten_cons]; exact (List.Perm.append_left _ (h2 g')).trans (by rw [← List.append_assoc, ← List.append_assoc]; exact List.Perm.append_right _ List.perm_append_comm)
      · cases j with
        | zero =>
          obtain rfl : a = k := by simpa using hk
          simp [hz]
        | succ j => exact List.mem_append.2 (.inr (h3 j k (by omega) (by simpa using hk) z hz))
def kfn (n : Nat) : Value := .func (.func n) #[] #[]
def kindL : List (Int × Value) := [(1, kfn 44), (2, kfn 45), (3, kfn 46), (4, kfn 47), (5, kfn 48), (6, kfn 49), (7, kfn 50), (8, kfn 51), (9, kfn 52), (10, kfn 52), (11, kfn 53), (12, kfn 54), (13, kfn 55), (14, kfn 56)]
def busc (vol bl cl n kb bp bc m bm : Nat) : Array Value := #[.int .i64 vol, .slice (some ⟨bl, 0, none⟩) n cl, .slice (some ⟨kb, 0, none⟩) n n, .slice (some ⟨bp, 0, none⟩) n n, .slice (some ⟨bc, 0, none⟩) m m, .map (some bm)]
structure BusP (n m : Nat) (w : World) (q : Nat) (F : List Nat) (S : Bs) (bl cl kb bp bc bm : Nat) (xs : List Cx) (G : List (List Nat)) : Prop where
  per : F.Perm ([q, bl, kb, bp, bc, bm] ++ G.flatten)
  nd : F.Nodup
  hq : w.heap[q]? = some (.cells (busc S.vol bl cl n kb bp bc m bm) 89 (0, 0))
  hl : ∃ r, w.heap[bl]? = some (.cells (bk S.ls r) 44 (0, 0))
  hk : w.heap[kb]? = some (.cells (bk S.ks []) 44 (0, 0))
  hp : w.heap[bp]? = some (.cells (ic S.ps) 3 (0, 0))
  hc : w.heap[bc]? = some (.cells (sq Cx.enc xs []) 111 (0, 0))
  hm : MapAt (fun k : Int => Value.int .i64 k) w bm kindL
  lx : xs.length = m
  lc : S.cs.length = m
  lg : G.length = m
  co : ∀ (i : Nat) (x : Cx) (g : List Nat) (c : Bc), xs[i]? = some x → G[i]? = some g → S.cs[i]? = some c → CoM w x g c
def BusM (n m : Nat) (w : World) (q : Nat) (F : List Nat) (S : Bs) : Prop := ∃ bl cl kb bp bc bm xs G, BusP n m w q F S bl cl kb bp bc bm xs G
def BusTo (n m : Nat) (w : World) (q : Nat) (F : List Nat) (S : Bs) (w' : World) : Prop := ∃ F', BusM n m w' q F' S ∧ Chg F w w' ∧ ∀ b ∈ F', b ∈ F ∨ w.heap.size ≤ b
section
variable {n m : Nat} {w w' : World} {q : Nat} {F : List Nat} {S : Bs} {bl cl kb bp bc bm : Nat} {xs : List Cx} {G : List (List Nat)}
theorem BusP.keep {l : List Nat} (h : BusP n m w q F S bl cl kb bp bc bm xs G) (hc : Chg l w w') (hl : ∀ b ∈ F, b ∉ l) : BusP n m w' q F S bl cl kb bp bc bm xs G := by
  have hl' : ∀ b ∈ [q, bl, kb, bp, bc, bm] ++ G.flatten, b ∉ l := fun b hb => hl b (h.per.mem_iff.2 hb)
  obtain ⟨r, hr⟩ := h.hl
  refine ⟨h.per, h.nd, hc.keep h.hq (hl' _ (by simp)), ⟨r, hc.keep hr (hl' _ (by simp))⟩, hc.keep h.hk (hl' _ (by simp)), hc.keep h.hp (hl' _ (by simp)), hc.keep h.hc (hl' _ (by simp)), h.hm.keep hc (hl' _ (by simp)), h.lx, h.lc, h.lg, fun i x g c h1 h2 h3 => (h.co i x g c h1 h2 h3).keep hc (fun b hb => hl' b ?_)⟩
  exact List.mem_append.2 (.inr (List.mem_flatten.2 ⟨g, List.mem_of_getElem? h2, hb⟩))
theorem BusM.keep {l : List Nat} (h : BusM n m w q F S) (hc : Chg l w w') (hl : ∀ b ∈ F, b ∉ l) : BusM n m w' q F S := by
  obtain ⟨bl, cl, kb, bp, bc, bm, xs, G, h⟩ := h
  exact ⟨bl, cl, kb, bp, bc, bm, xs, G, h.keep hc hl⟩
theorem BusP.old (h : BusP n m w q F S bl cl kb bp bc bm xs G) : ∀ b ∈ F, b < w.heap.size := by
  intro b hb
  have hb := h.per.mem_iff.1 hb
  obtain ⟨r, hr⟩ := h.hl
  obtain ⟨o, ho, _⟩ := h.hm
  simp only [List.cons_append, List.nil_append, List.mem_cons] at hb
  rcases hb with rfl | rfl | rfl | rfl | rfl | rfl | hb
  · exact lt_heap h.hq
  · exact lt_heap hr
  · exact lt_heap h.hk
  · exact lt_heap h.hp
  · exact lt_heap h.hc
  · exact lt_heap ho
  · obtain ⟨g, hg, hb⟩ := List.mem_flatten.1 hb
    obtain ⟨i, hi, rfl⟩ := List.mem_iff_getElem.1 hg
    have h1 := h.lx; have h2 := h.lc; have h3 := h.lg
    exact (h.co i (xs[i]'(by omega)) _ (S.cs[i]'(by omega)) (List.getElem?_eq_getElem _) (List.getElem?_eq_getElem _) (List.getElem?_eq_getElem _)).old b hb
theorem BusM.old (h : BusM n m w q F S) : ∀ b ∈ F, b < w.heap.size := by
  obtain ⟨bl, cl, kb, bp, bc, bm, xs, G, h⟩ := h
  exact h.old
theorem BusM.to (h : BusM n m w q F S) (hc : Chg [] w w') : BusTo n m w q F S w' := ⟨F, h.keep hc (by simp), hc.mono (by simp), fun b hb => .inl hb⟩
theorem BusTo.of {w1 : World} (h : BusTo n m w1 q F S w') (hc : Chg [] w w1) : BusTo n m w q F S w' := by
  obtain ⟨F', h1, h2, h3⟩ := h
  exact ⟨F', h1, (hc.mono (by simp)).trans h2, fun b hb => (h3 b hb).imp id (fun h => Nat.le_trans hc.size h)⟩
theorem BusTo.trans {S' : Bs} {w1 : World} {F1 : List Nat} (hM : BusM n m w1 q F1 S') (hc : Chg F w w1) (hF : ∀ b ∈ F1, b ∈ F ∨ w.heap.size ≤ b) (h : BusTo n m w1 q F1 S w') : BusTo n m w q F S w' := by
  obtain ⟨F', h1, h2, h3⟩ := h
  refine ⟨F', h1, hc.trans' h2 hF, fun b hb => ?_⟩
  rcases h3 b hb with h | h
  · exact hF b h
  · exact .inr (Nat.le_trans hc.size h)
theorem BusTo.on {w1 : World} {F1 : List Nat} (h : BusTo n m w1 q F1 S w') (hc : Chg F w w1) (hF : ∀ b ∈ F1, b ∈ F ∨ w.heap.size ≤ b) : BusTo n m w q F S w' := by
  obtain ⟨F', h1, h2, h3⟩ := h
  refine ⟨F', h1, hc.trans' h2 hF, fun b hb => ?_⟩
  rcases h3 b hb with h | h
  · exact hF b h
  · exact .inr (Nat.le_trans hc.size h)
/-- A core of it. -/
theorem BusP.core (h : BusP n m w q F S bl cl kb bp bc bm xs G) {i : Nat} (hi : i < m) : ∃ x g, CoIn w bc i xs x g (S.core i) ∧ G[i]? = some g ∧ S.cs[i]? = some (S.core i) := by
  have h1 := h.lx; have h2 := h.lc; have h3 := h.lg
  have e1 : xs[i]? = some (xs[i]'(by omega)) := List.getElem?_eq_getElem _
  have e2 : G[i]? = some (G[i]'(by omega)) := List.getElem?_eq_getElem _
  have e3 : S.cs[i]? = some (S.core i) := by
    unfold Bs.core
    rw [List.getD_eq_getElem?_getD, List.getElem?_eq_getElem (by omega : i < S.cs.length)]; rfl
  obtain ⟨R, h4, _, _⟩ := flatten_at e2
  have hnd := (h.per.trans (List.Perm.append_left _ h4)).nodup_iff.1 h.nd
  rw [List.nodup_append] at hnd
  refine ⟨_, _, ⟨h.hc, e1, h.co i _ _ _ e1 e2 e3, (List.nodup_append.1 hnd.2.1).1, fun hb => ?_⟩, e2, e3⟩
  exact hnd.2.2 bc (by simp) bc (List.mem_append.2 (.inl hb)) rfl
/-- A core of it has changed. -/
theorem BusP.setc (h : BusP n m w q F S bl cl kb bp bc bm xs G) {i : Nat} {g : List Nat} (hg : G[i]? = some g) {c' : Bc} (ht : CoTo w bc i xs g c' w') : ∃ F' xs' G', BusP n m w' q F' (S.setC i c') bl cl kb bp bc bm xs' G' ∧ Chg F w w' ∧ ∀ b ∈ F', b ∈ F ∨ w.heap.size ≤ b := by
  obtain ⟨x', g', h1, h2, h3, h4, h5⟩ := ht
  obtain ⟨R, hR, hR', hRo⟩ := flatten_at hg
  have hper := h.per.trans (List.Perm.append_left _ hR)
  have hnd := hper.nodup_iff.1 h.nd
  have hF : ∀ b, b ∈ F ↔ b ∈ [q, bl, kb, bp, bc, bm] ++ (g ++ R) := fun b => hper.mem_iff
  have hold := h.old
  have hnd2 := nodup_swap (N := w.heap.size) (F' := g') hnd (fun z hz => by
    refine hold z ((hF z).2 ?_)
    simp only [List.mem_append] at hz ⊢
    rcases hz with hz | hz
    · exact .inl hz
    · exact .inr (.inr hz)) h3 h4
  rw [List.nodup_append] at hnd
  obtain ⟨hn1, hn2, hn3⟩ := hnd
  rw [List.nodup_append] at hn2
  have hbc : ∀ z, z ∈ [q, bl, kb, bp, bm] → z ∉ bc :: g := by
    intro z hz
    have hzg : z ∉ g := fun hg => hn3 z (by simp only [List.mem_cons, List.not_mem_nil, or_false] at hz ⊢; rcases hz with rfl | rfl | rfl | rfl | rfl <;> simp) z (by simp [hg]) rfl
    simp only [List.nodup_cons, List.mem_cons, List.not_mem_nil, or_false, not_or, List.nodup_nil] at hn1
    simp only [List.mem_cons, List.not_mem_nil, or_false] at hz
    simp only [List.mem_cons, not_or]
    refine ⟨?_, hzg⟩
    obtain ⟨⟨a1, a2, a3, a4, a5⟩, ⟨b2, b3, b4, b5⟩, ⟨c3, c4, c5⟩, ⟨d4, d5⟩, e5, _⟩ := hn1
    rcases hz with rfl | rfl | rfl | rfl | rfl
    · exact a4
    · exact b4
    · exact c4
    · exact d4
    · exact Ne.symm e5
  obtain ⟨r, hr⟩ := h.hl
  have hil : i < m := by have := (List.getElem?_eq_some_iff.1 hg).1; have := h.lg; omega
  refine ⟨_, xs.set i x', G.set i g', ⟨List.Perm.append_left _ (List.Perm.refl _), ?_, h5.keep h.hq (hbc q (by simp)), ⟨r, h5.keep hr (hbc _ (by simp))⟩, h5.keep h.hk (hbc _ (by simp)), h5.keep h.hp (hbc _ (by simp)), h1, h.hm.keep h5 (hbc _ (by simp)), by simp [h.lx], by simp [Bs.setC, h.lc], by simp [h.lg], ?_⟩, h5.mono (fun z hz => .inl ((hF z).2 ?_)), fun b hb => ?_⟩
  · exact (List.Perm.append_left _ (hR' g')).nodup_iff.2 hnd2
  · intro j y k d e1 e2 e3
    by_cases hj : j = i
    · subst hj
      have l1 := h.lx; have l2 := h.lc; have l3 := h.lg
      rw [List.getElem?_set_self (by omega)] at e1 e2
      simp only [Bs.setC] at e3
      rw [List.getElem?_set_self (by omega)] at e3
      cases e1; cases e2; cases e3
      exact h2
    · rw [List.getElem?_set_ne (Ne.symm hj)] at e1 e2
      simp only [Bs.setC] at e3
      rw [List.getElem?_set_ne (Ne.symm hj)] at e3
      refine (h.co j y k d e1 e2 e3).keep h5 (fun z hz => ?_)
      have hzR := hRo j k hj e2 z hz
      simp only [List.mem_cons, not_or]
      exact ⟨fun e => hn3 bc (by simp) z (by simp [hzR]) e.symm, fun hg => hn2.2.2 z hg z hzR rfl⟩
  · simp only [List.mem_cons] at hz
    rcases hz with rfl | hz
    · simp
    · simp [hz]
  · have hb := ((List.Perm.append_left [q, bl, kb, bp, bc, bm] (hR' g')).mem_iff).1 hb
    simp only [List.mem_append] at hb
    rcases hb with hb | hb | hb
    · exact .inl ((hF b).2 (by simp only [List.mem_append]; exact .inl hb))
    · rcases h4 b hb with h | h
      · exact .inl ((hF b).2 (by simp only [List.mem_append]; exact .inr (.inl h)))
      · exact .inr h
    · exact .inl ((hF b).2 (by simp only [List.mem_append]; exact .inr (.inr hb)))
/-- The lines have changed; the kept ones; the pushes. -/
theorem BusP.ne (h : BusP n m w q F S bl cl kb bp bc bm xs G) : [q, bl, kb, bp, bc, bm].Nodup ∧ ∀ z ∈ [q, bl, kb, bp, bc, bm], z ∉ G.flatten := by
  have hnd := h.per.nodup_iff.1 h.nd
  rw [List.nodup_append] at hnd
  exact ⟨hnd.1, fun z hz hg => hnd.2.2 z hz z hg rfl⟩
theorem BusP.setl (h : BusP n m w q F S bl cl kb bp bc bm xs G) {ls' : List Int} (hc : Chg [bl] w w') (hl' : ∃ r, w'.heap[bl]? = some (.cells (bk ls' r) 44 (0, 0))) : BusP n m w' q F { S with ls := ls' } bl cl kb bp bc bm xs G := by
  obtain ⟨hn, hg⟩ := h.ne
  simp only [List.nodup_cons, List.mem_cons, List.not_mem_nil, or_false, not_or, List.nodup_nil] at hn
  obtain ⟨⟨a1, a2, a3, a4, a5⟩, ⟨b2, b3, b4, b5⟩, ⟨c3, c4, c5⟩, ⟨d4, d5⟩, e5, _⟩ := hn
  refine ⟨h.per, h.nd, hc.keep h.hq (by simpa using a1), hl', hc.keep h.hk (by simpa using Ne.symm b2), hc.keep h.hp (by simpa using Ne.symm b3), hc.keep h.hc (by simpa using Ne.symm b4), h.hm.keep hc (by simpa using Ne.symm b5), h.lx, h.lc, h.lg, fun i x g c h1 h2 h3 => (h.co i x g c h1 h2 h3).keep hc (fun z hz => ?_)⟩
  simp only [List.mem_singleton]
  rintro rfl
  exact hg z (by simp) (List.mem_flatten.2 ⟨g, List.mem_of_getElem? h2, hz⟩)
theorem BusP.setk (h : BusP n m w q F S bl cl kb bp bc bm xs G) {ks' : List Int} (hc : Chg [kb] w w') (hk' : w'.heap[kb]? = some (.cells (bk ks' []) 44 (0, 0))) : BusP n m w' q F { S with ks := ks' } bl cl kb bp bc bm xs G := by
  obtain ⟨hn, hg⟩ := h.ne
  simp only [List.nodup_cons, List.mem_cons, List.not_mem_nil, or_false, not_or, List.nodup_nil] at hn
  obtain ⟨⟨a1, a2, a3, a4, a5⟩, ⟨b2, b3, b4, b5⟩, ⟨c3, c4, c5⟩, ⟨d4, d5⟩, e5, _⟩ := hn
  obtain ⟨r, hr⟩ := h.hl
  refine ⟨h.per, h.nd, hc.keep h.hq (by simpa using a2), ⟨r, hc.keep hr (by simpa using b2)⟩, hk', hc.keep h.hp (by simpa using Ne.symm c3), hc.keep h.hc (by simpa using Ne.symm c4), h.hm.keep hc (by simpa using Ne.symm c5), h.lx, h.lc, h.lg, fun i x g c h1 h2 h3 => (h.co i x g c h1 h2 h3).keep hc (fun z hz => ?_)⟩
  simp only [List.mem_singleton]
  rintro rfl
  exact hg z (by simp) (List.mem_flatten.2 ⟨g, List.mem_of_getElem? h2, hz⟩)
theorem BusP.setp (h : BusP n m w q F S bl cl kb bp bc bm xs G) {ps' : List Int} (hc : Chg [bp] w w') (hp' : w'.heap[bp]? = some (.cells (ic ps') 3 (0, 0))) : BusP n m w' q F { S with ps := ps' } bl cl kb bp bc bm xs G := by
  obtain ⟨hn, hg⟩ := h.ne
  simp only [List.nodup_cons, List.mem_cons, List.not_mem_nil, or_false, not_or, List.nodup_nil] at hn
  obtain ⟨⟨a1, a2, a3, a4, a5⟩, ⟨b2, b3, b4, b5⟩, ⟨c3, c4, c5⟩, ⟨d4, d5⟩, e5, _⟩ := hn
  obtain ⟨r, hr⟩ := h.hl
  refine ⟨h.per, h.nd, hc.keep h.hq (by simpa using a3), ⟨r, hc.keep hr (by simpa using b3)⟩, hc.keep h.hk (by simpa using c3), hp', hc.keep h.hc (by simpa using Ne.symm d4), h.hm.keep hc (by simpa using Ne.symm d5), h.lx, h.lc, h.lg, fun i x g c h1 h2 h3 => (h.co i x g c h1 h2 h3).keep hc (fun z hz => ?_)⟩
  simp only [List.mem_singleton]
  rintro rfl
  exact hg z (by simp) (List.mem_flatten.2 ⟨g, List.mem_of_getElem? h2, hz⟩)
theorem BusP.mem (h : BusP n m w q F S bl cl kb bp bc bm xs G) : ∀ z ∈ [q, bl, kb, bp, bc, bm], z ∈ F := fun z hz => h.per.mem_iff.2 (List.mem_append.2 (.inl hz))
end
end Go.Proofs.Ytnocekhgabgffaa
end
section
namespace Go.Proofs.Ytnocekhgabgffaa
open Go.RowKit
set_option linter.unusedVariables false
set_option maxHeartbeats 1000000

set_option maxRecDepth 100000
attribute [local go_sem ↓] append_appS copy_copS clear_clrS make_mkS slice_slS lookup_lookS mput_mputS del_mdelS cell_row frozen_row heap_drew heap_drewN heap_alloc heap_past heap_setCell heap_putRow heap_setB loadEv storeEv loadBe storeBe loadSp storeSp loadNw storeNw loadLine storeLine evc_kd evc_co evc_li evc_wo evc_va bec_fl bec_li bec_wo bec_va nwC_0 nwC_1 spC_0 spC_1
attribute [local go_sem] rowCell_some rowFrozen_some rowHas_some rowIn_some rowPart_full rowPart_lit rowPut_full rowPut_lit rowSet_some size_putRow size_setB run_loadS run_storeS run_appS run_copS run_clrS run_mkS run_slS run_lookS run_mputS run_mdelS loadW_at storeW_at fit_all fit_le one_int one_bool one_pointer one_slice allOne_list putRow_new ne_size1 ne_size2 ne_size3 ne_size4 wideEv wideBe wideSp wideNw wideLine evc_size evc_one evc_ne evc_lit evc_z fold_evc bec_size bec_one bec_lit bec_ne bec_at bec_in spC_size spC_one nwC_size nwC_one nwC_ne nwC_set0 nwC_set1 nwC_lit bec_set0 bec_set1 bec_set2 bec_set3 spC_set0 spC_set1 spC_lit fold_spC spC_ne fold_nwC fold_bec fold_at vs_size vs_one ic_size ic_get
attribute [local simp ↓] heap_drew heap_drewN heap_alloc heap_past heap_setCell heap_putRow heap_setB
attribute [local simp] rowCell_some rowFrozen_some rowHas_some rowIn_some rowPart_full rowPart_lit rowPut_full rowPut_lit rowSet_some size_putRow size_setB fit_all putRow_new ne_size1 ne_size2 ne_size3 ne_size4 evc_size bec_size spC_size nwC_size vs_size fit_le
/-! ### Cores that have nothing on their way -/
def czE (p : Option Nat × Option Nat) : List Value := [.slice none 0 0, .map p.1, .map p.2, .bool false, .int .i64 0, .int .i64 0, .int .i64 0, .int .i64 0, .int .u64 0]
theorem czE_len (p : Option Nat × Option Nat) : (czE p).length = 9 := rfl
theorem core_info : (Try.prog.info? 111).map (fun i => (i.zero, i.size, i.bytes)) = some (some (.agg (czE (none, none)).toArray), 9, 88) := by kernel_rfl
theorem made_cz (n : Nat) : madeCells (czE (none, none)).toArray (n * 9) = sq czE (List.replicate n (none, none)) [] := by
  apply Array.ext
  · rw [sq_size czE_len]
    simp [madeCells]
  · intro k h1 h2
    have hk : k < n * 9 := by simpa [madeCells] using h1
    obtain ⟨i, j, hj, rfl⟩ : ∃ i j, j < 9 ∧ k = i * 9 + j := ⟨k / 9, k % 9, Nat.mod_lt _ (by omega), by omega⟩
    have hi : i < n := by omega
    have h3 := sq_cell (enc := czE) czE_len (xs := List.replicate n (none, none)) (i := i) (a := (none, none)) (by simp [hi]) [] j hj
    rw [Array.getElem?_eq_getElem h2] at h3
    have h6 : (i * 9 + j) % 9 = j := by omega
    have h7 : (czE (none, none)).toArray.size = 9 := rfl
    apply Option.some.inj
    rw [h3]
    simp only [madeCells, Array.getElem_map, Array.getElem_range, h7, h6]
    have h5 : j = 0 ∨ j = 1 ∨ j = 2 ∨ j = 3 ∨ j = 4 ∨ j = 5 ∨ j = 6 ∨ j = 7 ∨ j = 8 := by omega
    rcases h5 with rfl | rfl | rfl | rfl | rfl | rfl | rfl | rfl | rfl <;> rfl
theorem run_make_cores (w : World) (n : Nat) (hn : n ≤ 64) : mkR Try.prog 86 (.int .i64 n) (.int .i64 n) w = .ok (.slice (some ⟨w.heap.size, 0, none⟩) n n) (w.alloc (.cells (sq czE (List.replicate n (none, none)) []) 111)) := by
  obtain ⟨i0, hi0, hz0, hz1, hz2⟩ := info_parts core_info
  have := run_make (P := Try.prog) w 86 111 i0 _ Try.underlying86 hi0 hz0 .i64 .i64 n n (by omega) (by omega) (by rw [hz2]; omega) (by omega)
  simp only [Int.toNat_natCast, hz1] at this
  rw [← made_cz]
  exact this
theorem make_sm (w : World) : (Instr.makeMap 107 none).run Try.prog w = .ok (.map (some w.heap.size)) (w.alloc (.map #[] 0)) := rfl
theorem make_tm (w : World) : (Instr.makeMap 109 none).run Try.prog w = .ok (.map (some w.heap.size)) (w.alloc (.map #[] 0)) := rfl
/-- The cores made so far: their maps. -/
def czs (L : List (Nat × Nat)) (m : Nat) : List (Option Nat × Option Nat) := L.map (fun p => (some p.1, some p.2)) ++ List.replicate (m - L.length) (none, none)
theorem czs_at {L : List (Nat × Nat)} {m : Nat} (h : L.length < m) : (czs L m)[L.length]? = some (none, none) := by
  unfold czs
  rw [List.getElem?_append_right (by simp), List.length_map, Nat.sub_self, List.getElem?_replicate, if_pos (by omega)]
theorem czs_set {L : List (Nat × Nat)} {m : Nat} (h : L.length < m) (a b : Nat) : (czs L m).set L.length (some a, some b) = czs (L ++ [(a, b)]) m := by
  unfold czs
  obtain ⟨k, hk⟩ : ∃ k, m - L.length = k + 1 := ⟨m - L.length - 1, by omega⟩
  rw [List.set_append_right _ _ (by simp), List.length_map, Nat.sub_self, hk, List.replicate_succ, List.set_cons_zero, List.map_append, List.length_append, List.length_singleton, show m - (L.length + 1) = k by omega]
  simp
def pairs (L : List (Nat × Nat)) : List Nat := (L.map fun p => [p.1, p.2]).flatten
theorem pairs_snoc (L : List (Nat × Nat)) (a b : Nat) : pairs (L ++ [(a, b)]) = pairs L ++ [a, b] := by simp [pairs]
structure Cores (W w : World) (bc m : Nat) (L : List (Nat × Nat)) : Prop where
  chg : Chg [] W w
  hb : w.heap[bc]? = some (.cells (sq czE (czs L m) []) 111 (0, 0))
  new : W.heap.size ≤ bc
  maps : ∀ z ∈ pairs L, w.heap[z]? = some (.map #[] 0) ∧ bc < z
  nd : (pairs L).Nodup
theorem cores_round {W wr : World} {bc m : Nat} {L : List (Nat × Nat)} (h : Cores W wr bc m L) (hlt : L.length < m) :
    Cores W ((((wr.alloc (Obj.map #[] 0)).setCell { block := bc, off := L.length * 9 + 1 } (Value.map (some wr.heap.size))).alloc (Obj.map #[] 0)).setCell { block := bc, off := L.length * 9 + 2 } (Value.map (some (wr.heap.size + 1)))) bc m (L ++ [(wr.heap.size, wr.heap.size + 1)]) := by
  have hz := czs_at hlt
  have s1 := sq_set9 (o := 1) (b := (some wr.heap.size, none)) (v := .map (some wr.heap.size)) czE_len hz (by omega) rfl
  have hl : L.length < (czs L m).length := (List.getElem?_eq_some_iff.1 hz).1
  have s2 := sq_set9 (o := 2) (b := (some wr.heap.size, some (wr.heap.size + 1))) (v := .map (some (wr.heap.size + 1))) czE_len (List.getElem?_set_self (a := (some wr.heap.size, (none : Option Nat))) hl) (by omega) rfl
  rw [List.set_set, czs_set hlt] at s2
  have hob := lt_heap h.hb
  have d1 : Chg [] wr (wr.alloc (Obj.map #[] 0)) := (Chg.refl [] wr).alloc _
  have a1 : (wr.alloc (Obj.map #[] 0)).heap[wr.heap.size]? = some (.map #[] 0) := (MapKept.heap_alloc wr _).1
  have z1 : (wr.alloc (Obj.map #[] 0)).heap.size = wr.heap.size + 1 := by simp
  have b1 := d1.keep h.hb (by simp)
  generalize wr.alloc (Obj.map #[] 0) = v1 at *
  have d2 : Chg [bc] v1 (v1.setCell { block := bc, off := L.length * 9 + 1 } (Value.map (some wr.heap.size))) := (Chg.refl [bc] v1).setCell _ _ _ (.inl (by simp))
  have b2 : (v1.setCell { block := bc, off := L.length * 9 + 1 } (Value.map (some wr.heap.size))).heap[bc]? = some (.cells (sq czE ((czs L m).set L.length (some wr.heap.size, none)) []) 111 (0, 0)) := by
    rw [heap_setCell, if_pos rfl, b1, rowSet_some, s1]
  have z2 : (v1.setCell { block := bc, off := L.length * 9 + 1 } (Value.map (some wr.heap.size))).heap.size = wr.heap.size + 1 := by rw [← z1]; simp
  generalize v1.setCell { block := bc, off := L.length * 9 + 1 } (Value.map (some wr.heap.size)) = v2 at *
  have d3 : Chg [] v2 (v2.alloc (Obj.map #[] 0)) := (Chg.refl [] v2).alloc _
  have a3 : (v2.alloc (Obj.map #[] 0)).heap[wr.heap.size + 1]? = some (.map #[] 0) := by rw [← z2]; exact (MapKept.heap_alloc v2 _).1
  have b3 := d3.keep b2 (by simp)
  generalize v2.alloc (Obj.map #[] 0) = v3 at *
  have d4 : Chg [bc] v3 (v3.setCell { block := bc, off := L.length * 9 + 2 } (Value.map (some (wr.heap.size + 1)))) := (Chg.refl [bc] v3).setCell _ _ _ (.inl (by simp))
  have b4 : (v3.setCell { block := bc, off := L.length * 9 + 2 } (Value.map (some (wr.heap.size + 1)))).heap[bc]? = some (.cells (sq czE (czs (L ++ [(wr.heap.size, wr.heap.size + 1)]) m) []) 111 (0, 0)) := by
    rw [heap_setCell, if_pos rfl, b3, rowSet_some, s2]
  generalize v3.setCell { block := bc, off := L.length * 9 + 2 } (Value.map (some (wr.heap.size + 1))) = v4 at *
  have D : Chg [bc] wr v4 := (((d1.mono (by simp)).trans d2).trans (d3.mono (by simp))).trans d4
  refine ⟨h.chg.trans' D (fun z hz => .inr (by simp only [List.mem_singleton] at hz; subst hz; exact h.new)), b4, h.new, fun z hz => ?_, ?_⟩
  · rw [pairs_snoc] at hz
    rcases List.mem_append.1 hz with hz | hz
    · obtain ⟨h1, h2⟩ := h.maps z hz
      exact ⟨D.keep h1 (by simp; omega), h2⟩
    · simp only [List.mem_cons, List.not_mem_nil, or_false] at hz
      rcases hz with rfl | rfl
      · exact ⟨d4.keep (d3.keep (d2.keep a1 (by simp; omega)) (by simp)) (by simp; omega), hob⟩
      · exact ⟨d4.keep a3 (by simp; omega), by omega⟩
  · rw [pairs_snoc, List.nodup_append]
    refine ⟨h.nd, by simp, fun x hx y hy => ?_⟩
    have := lt_heap (h.maps x hx).1
    simp only [List.mem_cons, List.not_mem_nil, or_false] at hy
    omega
theorem newcores_any (m : Nat) (hm : m ≤ 8) (W : World) : Calls Try.prog 33 #[.int .i64 m] W fun e w' => ∃ bc L, e = .returned (.slice (some ⟨bc, 0, none⟩) m m) ∧ L.length = m ∧ Cores W w' bc m L := by
  have hmk := run_make_cores W m (by omega)
  have hm1 : (m : Int) ≤ 8 := by omega
  have h0 : Cores W (W.alloc (.cells (sq czE (List.replicate m (none, none)) []) 111)) W.heap.size m [] := by
    refine ⟨(Chg.refl [] W).alloc _, ?_, Nat.le_refl _, by simp [pairs], by simp [pairs]⟩
    rw [(MapKept.heap_alloc W _).1]
    simp [czs]
  generalize W.alloc (.cells (sq czE (List.replicate m (none, none)) []) 111) = w1 at *
  generalize W.heap.size = bc at *
  have H0 := Lib.hid h0
  have msm := make_sm
  have mtm := make_tm
  clear h0
  go_enter Try.func33, Try.ntmps33
  go_wp2_with fail
  go_loopw [9] (fun i wr => ∃ (k : Nat) (L : List (Nat × Nat)), k ≤ m ∧ i = .int .i64 k ∧ L.length = k ∧ Cores W wr bc m L) (fun i _ => m - (intOf i).toNat)
  case atStart => exact ⟨0, [], by omega, rfl, rfl, H0.out⟩
  case round =>
    clear hmk H0
    obtain ⟨k, L, hk, rfl, hL, h1⟩ := hrel
    have H1 := Lib.hid h1
    have hb := h1.hb
    clear h1
    by_cases hlt : k < m
    · have g1 : (k : Int) < (m : Int) := by omega
      have g0 : (0 : Int) ≤ (k : Int) := by omega
      subst hL
      have hz := czs_at hlt
      have z1 := sq_cell czE_len hz [] 1 (by omega)
      have z2 := sq_cell czE_len hz [] 2 (by omega)
      have RC := Lib.hid (cores_round H1.out hlt)
      go_wp2_with fail
      go_roundw
      case rel => exact ⟨L.length + 1, L ++ [(wr.heap.size, wr.heap.size + 1)], by omega, by go_num, by simp, RC.out⟩
      case measure =>
        show m - ((L.length : Int) + 1).toNat < m - ((L.length : Int)).toNat
        omega
    · obtain rfl : k = m := by omega
      go_wp2_with fail
      go_ret
      exact ⟨bc, L, rfl, hL, H1.out⟩
/-- Such cores as a bus has them. -/
def cxZ (p : Nat × Nat) : Cx := ⟨none, 0, 0, p.1, p.2, false, evZ⟩
theorem czs_all {L : List (Nat × Nat)} {m : Nat} (h : L.length = m) : sq czE (czs L m) [] = sq Cx.enc (L.map cxZ) [] := by
  subst h
  unfold sq czs
  rw [Nat.sub_self, List.replicate_zero, List.append_nil]
  congr 2
  unfold cat
  simp only [List.append_nil, List.map_map]
  rfl
theorem bcZ_com {w : World} {p : Nat × Nat} (h1 : w.heap[p.1]? = some (.map #[] 0)) (h2 : w.heap[p.2]? = some (.map #[] 0)) : CoM w (cxZ p) [p.1, p.2] bcZ :=
  ⟨rfl, rfl, rfl, [], [], List.Perm.refl _, Vq.nil _ _ _ _, ⟨_, h1, isMap_empty _⟩, ⟨_, h2, isMap_empty _⟩, rfl, by simp⟩
theorem fail_made {n m : Nat} {w w' : World} {q : Nat} {F : List Nat} {S : Bs} {bl cl kb bp bc bm : Nat} {xs : List Cx} {G : List (List Nat)} (P : BusP n m w q F S bl cl kb bp bc bm xs G) {bc' : Nat} {L : List (Nat × Nat)} (hL : L.length = m) (hC : Cores w w' bc' m L) :
    ∃ F' xs' G', BusP n m (w'.setCell ⟨q, 4, none⟩ (.slice (some ⟨bc', 0, none⟩) m m)) q F' { S with cs := List.replicate m bcZ } bl cl kb bp bc' bm xs' G' ∧ Chg F w (w'.setCell ⟨q, 4, none⟩ (.slice (some ⟨bc', 0, none⟩) m m)) ∧ ∀ b ∈ F', b ∈ F ∨ w.heap.size ≤ b := by
  obtain ⟨hn, hg⟩ := P.ne
  have hold := P.old
  have hmem := P.mem
  simp only [List.nodup_cons, List.mem_cons, List.not_mem_nil, or_false, not_or, List.nodup_nil] at hn
  obtain ⟨⟨a1, a2, a3, a4, a5⟩, ⟨b2, b3, b4, b5⟩, ⟨c3, c4, c5⟩, ⟨d4, d5⟩, e5, _⟩ := hn
  have d1 : Chg [q] w' (w'.setCell ⟨q, 4, none⟩ (.slice (some ⟨bc', 0, none⟩) m m)) := (Chg.refl [q] w').setCell _ _ _ (.inl (by simp))
  have hq' : (w'.setCell ⟨q, 4, none⟩ (.slice (some ⟨bc', 0, none⟩) m m)).heap[q]? = some (.cells (busc S.vol bl cl n kb bp bc' m bm) 89 (0, 0)) := by
    rw [heap_setCell, if_pos rfl, hC.chg.keep P.hq (by simp), rowSet_some]
    simp [busc]
  generalize w'.setCell ⟨q, 4, none⟩ (.slice (some ⟨bc', 0, none⟩) m m) = w2 at *
  have D : Chg [q] w w2 := (hC.chg.mono (by simp)).trans d1
  have hqn : q < w.heap.size := hold q (hmem q (by simp))
  have hnew := hC.new
  have hpn : ∀ z ∈ pairs L, w.heap.size ≤ z ∧ bc' < z := fun z hz => by have := (hC.maps z hz).2; omega
  obtain ⟨r, hr⟩ := P.hl
  have hGf : (L.map fun p => [p.1, p.2]).flatten = pairs L := rfl
  refine ⟨[q, bl, kb, bp, bc', bm] ++ pairs L, L.map cxZ, L.map (fun p => [p.1, p.2]), ⟨List.Perm.refl _, ?_, hq', ⟨r, D.keep hr (by simpa using Ne.symm a1)⟩, D.keep P.hk (by simpa using Ne.symm a2), D.keep P.hp (by simpa using Ne.symm a3), ?_, P.hm.keep D (by simpa using Ne.symm a5), by simp [hL], by simp, by simp [hL], ?_⟩, D.mono (fun z hz => .inl (by simp only [List.mem_singleton] at hz; subst hz; exact hmem _ (by simp))), fun b hb => ?_⟩
  · have o1 := hold bl (hmem _ (by simp)); have o2 := hold kb (hmem _ (by simp)); have o3 := hold bp (hmem _ (by simp)); have o4 := hold bm (hmem _ (by simp))
    rw [List.nodup_append]
    refine ⟨?_, hC.nd, fun x hx y hy => ?_⟩
    · simp only [List.nodup_cons, List.mem_cons, List.not_mem_nil, or_false, not_or, List.nodup_nil, not_false_eq_true, and_true]
      refine ⟨⟨a1, a2, a3, by omega, a5⟩, ⟨b2, b3, by omega, b5⟩, ⟨c3, by omega, c5⟩, ⟨by omega, d5⟩, by omega⟩
    · have := hpn y hy
      simp only [List.mem_cons, List.not_mem_nil, or_false] at hx
      rcases hx with rfl | rfl | rfl | rfl | rfl | rfl <;> omega
  · have := d1.keep hC.hb (by simp; omega)
    rw [czs_all hL] at this
    exact this
  · intro i x g c h1 h2 h3
    obtain ⟨p, hp, rfl⟩ : ∃ p, L[i]? = some p ∧ cxZ p = x := by simpa [List.getElem?_map, Option.map_eq_some_iff] using h1
    have h2' : [p.1, p.2] = g := by rw [List.getElem?_map, hp] at h2; simpa using h2
    have h3' : bcZ = c := by
      rw [List.getElem?_replicate] at h3
      split at h3
      · simpa using h3
      · cases h3
    subst h2' h3'
    have hm : ∀ z ∈ [p.1, p.2], w2.heap[z]? = some (.map #[] 0) := fun z hz => by
      have hz' : z ∈ pairs L := List.mem_flatten.2 ⟨_, List.mem_map.2 ⟨p, List.mem_of_getElem? hp, rfl⟩, hz⟩
      exact d1.keep (hC.maps z hz').1 (by have := hpn z hz'; simp; omega)
    exact bcZ_com (hm p.1 (by simp)) (hm p.2 (by simp))
  · rcases List.mem_append.1 hb with hb | hb
    · simp only [List.mem_cons, List.not_mem_nil, or_false] at hb
      rcases hb with rfl | rfl | rfl | rfl | rfl | rfl
      · exact .inl (hmem _ (by simp))
      · exact .inl (hmem _ (by simp))
      · exact .inl (hmem _ (by simp))
      · exact .inl (hmem _ (by simp))
      · exact .inr hnew
      · exact .inl (hmem _ (by simp))
    · exact .inr (hpn b hb).1
theorem fail_ev {n m : Nat} {w : World} {q : Nat} {F : List Nat} {S : Bs} (h : BusM n m w q F S) {N : Nat} (ok : S.Ok n m N) (e : Ev) : Calls Try.prog 53 #[.pointer (some ⟨q, 0, none⟩), .agg (evc e)] w fun r w' => r = .returned (.bool true) ∧ BusTo n m w q F S.fail w' := by
  obtain ⟨bl, cl, kb, bp, bc, bm, xs, G, P0⟩ := h
  obtain ⟨n1, n2⟩ := one_new w (.cells (evc e) 41)
  have P := P0.keep n2 (by simp)
  have N2 := Lib.hid n2
  have hm8 := ok.m8
  have h64 := ok.n64
  have h0n := ok.n0
  have hls := ok.ls
  have hks := ok.ks
  have hcs := ok.cs
  clear n2 P0
  go_enter Try.func53, Try.ntmps53
  go_upto_region 1 with fail
  generalize w.alloc (.cells (evc e) 41) = w1 at *
  clear n1
  have hq := P.hq
  unfold busc at hq
  obtain ⟨r, hr⟩ := P.hl
  have hk := P.hk
  obtain ⟨i0, hi0, hz0, hz1, hz2⟩ := info_parts line_info
  have hsl := Sl.of_bk (w := w1.drew) hk hks
  have hcp : ∀ ty, copR Try.prog 24 24 ty #[.slice (some ⟨bl, 0, none⟩) n cl, .slice (some ⟨kb, 0, none⟩) n n] w1.drew = .ok (goInt n) (putRow w1.drew bl 0 (S.ks.map (Value.int .u64)).toArray) := fun ty =>
    run_copy_sl (P := Try.prog) (t := 24) (t' := 24) (ty := ty) Try.underlying24 hi0 w1.drew bl 0 _ n n n cl _ (by rw [hz1]; exact hsl) (Nat.le_refl _) (bk_one S.ks) (by
      rw [heap_drew, hr, rowHas_some, bk_size, List.length_map, hks, hls]
      exact decide_eq_true (show _ ≤ _ by omega))
  have hbl : (putRow w1.drew bl 0 (S.ks.map (Value.int .u64)).toArray).heap[bl]? = some (.cells (bk S.ks r) 44 (0, 0)) := by
    rw [heap_putRow _ _ _ _ _ (by
      rw [heap_drew, hr, rowHas_some, bk_size, hls]
      refine decide_eq_true (show _ ≤ _ from ?_)
      simp; omega), if_pos rfl, heap_drew, hr]
    have := rowPut_bk (xs := S.ls) (l := S.ks) (i := 0) (by rw [hls, hks]; unfold Fit; omega) r 44 (0, 0)
    rw [Nat.zero_mul] at this
    have e0 : lnPut S.ls 0 S.ks = S.ks := by
      unfold lnPut; rw [Nat.zero_mul, splice_all _ _ (by rw [hls, hks])]
    rw [e0] at this
    exact this
  have d2 : Chg [bl] w1 (putRow w1.drew bl 0 (S.ks.map (Value.int .u64)).toArray) := ((Chg.refl [bl] w1).drew).putRow _ _ _ (.inl (by simp))
  have HP := Lib.hid P
  have HBL := Lib.hid hbl
  clear hsl hi0 hz0 hz1 hz2 hbl hr hk P
  go_region
  have P2 := HP.out.setl d2 ⟨r, HBL.out⟩
  have hq2 := P2.hq
  unfold busc at hq2
  have D2 := Lib.hid (d2.mono (l' := F) (fun z hz => .inl (by simp only [List.mem_singleton] at hz; subst hz; exact HP.out.mem _ (by simp))))
  have oq := old hq2
  generalize putRow w1.drew bl 0 (S.ks.map (Value.int .u64)).toArray = w2 at *
  have HP2 := Lib.hid P2
  clear P2 d2 HBL hcp hq
  go_wp2_with (go_at_call 33; refine (newcores_any m hm8 _).mono ?_; rintro e w3 ⟨bc', L, rfl, hL, hC⟩; have hq3 := hC.chg.keep hq2 (by simp); have HC := Lib.hid hC; have HL := Lib.hid hL; clear hC hL)
  go_ret
  refine ⟨rfl, ?_⟩
  obtain ⟨F', xs', G', p1, p2, p3⟩ := fail_made HP2.out HL.out HC.out
  have e0 : S.fail = { ({ S with ls := S.ks } : Bs) with cs := List.replicate m bcZ } := by unfold Bs.fail; rw [hcs]
  rw [e0]
  exact ((show BusTo n m w2 q F { ({ S with ls := S.ks } : Bs) with cs := List.replicate m bcZ } _ from ⟨F', ⟨_, _, _, _, _, _, _, _, p1⟩, p2, p3⟩).on D2.out (fun b hb => .inl hb)).of N2.out
end Go.Proofs.Ytnocekhgabgffaa
end
section
namespace Go.Proofs.Ytnocekhgabgffaa
open Go.RowKit
set_option linter.unusedVariables false
set_option maxRecDepth 100000

theorem wdwithin_yes (n a b : Int) (w : World) (h0 : a ≤ n) (h1 : n ≤ b) : Calls Try.prog 42 #[.int .i64 n, .int .i64 a, .int .i64 b] w fun e w' => e = .returned (.bool true) ∧ w = w' := by
  go_enter Try.func42, Try.ntmps42
  go_wp2
  go_ret
  exact ⟨rfl, rfl⟩
theorem wdwithin_no (n a b : Int) (w : World) (h0 : ¬ (a ≤ n ∧ n ≤ b)) : Calls Try.prog 42 #[.int .i64 n, .int .i64 a, .int .i64 b] w fun e w' => e = .returned (.bool false) ∧ w = w' := by
  by_cases h : a ≤ n
  · have h7 : decide (n ≤ b) = false := by simp; omega
    clear h0
    go_enter Try.func42, Try.ntmps42
    go_wp2
    go_ret
    exact ⟨rfl, rfl⟩
  · have h7 : decide (a ≤ n) = false := by simp; omega
    clear h0
    go_enter Try.func42, Try.ntmps42
    go_wp2
    go_ret
    exact ⟨rfl, rfl⟩

end Go.Proofs.Ytnocekhgabgffaa
end
section
namespace Go.Proofs.Ytnocekhgabgffaa
open Go.RowKit
set_option linter.unusedVariables false
set_option maxRecDepth 100000

theorem sets_yes (n : Int) (w : World) (h : n = 1 ∨ n = 2 ∨ n = 4 ∨ n = 8) : Calls Try.prog 43 #[.int .i64 n] w fun e w' => e = .returned (.bool true) ∧ w = w' := by
  obtain rfl | rfl | rfl | rfl := h
  all_goals
    go_enter Try.func43, Try.ntmps43
    go_wp2
    go_ret
    exact ⟨rfl, rfl⟩
theorem sets_no (n : Int) (w : World) (h : ¬ (n = 1 ∨ n = 2 ∨ n = 4 ∨ n = 8)) : Calls Try.prog 43 #[.int .i64 n] w fun e w' => e = .returned (.bool false) ∧ w = w' := by
  have e1 : (n == 1) = false := by simp; omega
  have e2 : (n == 2) = false := by simp; omega
  have e3 : (n == 4) = false := by simp; omega
  have e4 : (n == 8) = false := by simp; omega
  clear h
  go_enter Try.func43, Try.ntmps43
  go_wp2
  go_ret
  exact ⟨rfl, rfl⟩

theorem good_0 (c0 c1 c2 c3 c4 c5 c6 : Int) (w : World) (h : ¬ (1 ≤ c0 ∧ c0 ≤ 8)) : Calls Try.prog 32 #[.agg #[.int .i64 c0, .int .i64 c1, .int .i64 c2, .int .i64 c3, .int .i64 c4, .int .i64 c5, .int .i64 c6]] w fun e w' => e = .returned (.bool false) ∧ w' = w.alloc (.cells #[.int .i64 c0, .int .i64 c1, .int .i64 c2, .int .i64 c3, .int .i64 c4, .int .i64 c5, .int .i64 c6] 23) := by
  have H := Lib.hid h
  clear h
  go_enter Try.func32, Try.ntmps32
  go_wp2_with (first
      | (go_at_call_of 42 (Value.int .i64 c0); refine (wdwithin_no _ _ _ _ H.out).mono ?_; rintro e w' ⟨rfl, rfl⟩))
  go_ret
  exact ⟨rfl, rfl⟩
theorem good_1 (c0 c1 c2 c3 c4 c5 c6 : Int) (w : World) (p0 : 1 ≤ c0) (q0 : c0 ≤ 8) (h : ¬ (2 ≤ c1 ∧ c1 ≤ 64)) : Calls Try.prog 32 #[.agg #[.int .i64 c0, .int .i64 c1, .int .i64 c2, .int .i64 c3, .int .i64 c4, .int .i64 c5, .int .i64 c6]] w fun e w' => e = .returned (.bool false) ∧ w' = w.alloc (.cells #[.int .i64 c0, .int .i64 c1, .int .i64 c2, .int .i64 c3, .int .i64 c4, .int .i64 c5, .int .i64 c6] 23) := by
  have H := Lib.hid h
  clear h
  go_enter Try.func32, Try.ntmps32
  go_wp2_with (first
      | (go_at_call_of 42 (Value.int .i64 c0); refine (wdwithin_yes _ _ _ _ p0 q0).mono ?_; rintro e w' ⟨rfl, rfl⟩)
      | (go_at_call_of 42 (Value.int .i64 c1); refine (wdwithin_no _ _ _ _ H.out).mono ?_; rintro e w' ⟨rfl, rfl⟩))
  go_ret
  exact ⟨rfl, rfl⟩
theorem good_2 (c0 c1 c2 c3 c4 c5 c6 : Int) (w : World) (p0 : 1 ≤ c0) (q0 : c0 ≤ 8) (p1 : 2 ≤ c1) (q1 : c1 ≤ 64) (h : ¬ (1 ≤ c2 ∧ c2 ≤ c1 - 1)) : Calls Try.prog 32 #[.agg #[.int .i64 c0, .int .i64 c1, .int .i64 c2, .int .i64 c3, .int .i64 c4, .int .i64 c5, .int .i64 c6]] w fun e w' => e = .returned (.bool false) ∧ w' = w.alloc (.cells #[.int .i64 c0, .int .i64 c1, .int .i64 c2, .int .i64 c3, .int .i64 c4, .int .i64 c5, .int .i64 c6] 23) := by
  have H := Lib.hid h
  clear h
  go_enter Try.func32, Try.ntmps32
  go_wp2_with (first
      | (go_at_call_of 42 (Value.int .i64 c0); refine (wdwithin_yes _ _ _ _ p0 q0).mono ?_; rintro e w' ⟨rfl, rfl⟩)
      | (go_at_call_of 42 (Value.int .i64 c1); refine (wdwithin_yes _ _ _ _ p1 q1).mono ?_; rintro e w' ⟨rfl, rfl⟩)
      | (go_at_call_of 42 (Value.int .i64 c2); refine (wdwithin_no _ _ _ _ H.out).mono ?_; rintro e w' ⟨rfl, rfl⟩))
  go_ret
  exact ⟨rfl, rfl⟩
theorem good_3 (c0 c1 c2 c3 c4 c5 c6 : Int) (w : World) (p0 : 1 ≤ c0) (q0 : c0 ≤ 8) (p1 : 2 ≤ c1) (q1 : c1 ≤ 64) (p2 : 1 ≤ c2) (q2 : c2 ≤ c1 - 1) (h : ¬ (c3 = 1 ∨ c3 = 2 ∨ c3 = 4 ∨ c3 = 8)) : Calls Try.prog 32 #[.agg #[.int .i64 c0, .int .i64 c1, .int .i64 c2, .int .i64 c3, .int .i64 c4, .int .i64 c5, .int .i64 c6]] w fun e w' => e = .returned (.bool false) ∧ w' = w.alloc (.cells #[.int .i64 c0, .int .i64 c1, .int .i64 c2, .int .i64 c3, .int .i64 c4, .int .i64 c5, .int .i64 c6] 23) := by
  have H := Lib.hid h
  clear h
  go_enter Try.func32, Try.ntmps32
  go_wp2_with (first
      | (go_at_call_of 42 (Value.int .i64 c0); refine (wdwithin_yes _ _ _ _ p0 q0).mono ?_; rintro e w' ⟨rfl, rfl⟩)
      | (go_at_call_of 42 (Value.int .i64 c1); refine (wdwithin_yes _ _ _ _ p1 q1).mono ?_; rintro e w' ⟨rfl, rfl⟩)
      | (go_at_call_of 42 (Value.int .i64 c2); refine (wdwithin_yes _ _ _ _ p2 q2).mono ?_; rintro e w' ⟨rfl, rfl⟩)
      | (go_at_call 43; refine (sets_no _ _ H.out).mono ?_; rintro e w' ⟨rfl, rfl⟩))
  go_ret
  exact ⟨rfl, rfl⟩
theorem good_4 (c0 c1 c2 c3 c4 c5 c6 : Int) (w : World) (p0 : 1 ≤ c0) (q0 : c0 ≤ 8) (p1 : 2 ≤ c1) (q1 : c1 ≤ 64) (p2 : 1 ≤ c2) (q2 : c2 ≤ c1 - 1) (s : c3 = 1 ∨ c3 = 2 ∨ c3 = 4 ∨ c3 = 8) (h : ¬ (1 ≤ c4 ∧ c4 ≤ 8)) : Calls Try.prog 32 #[.agg #[.int .i64 c0, .int .i64 c1, .int .i64 c2, .int .i64 c3, .int .i64 c4, .int .i64 c5, .int .i64 c6]] w fun e w' => e = .returned (.bool false) ∧ w' = w.alloc (.cells #[.int .i64 c0, .int .i64 c1, .int .i64 c2, .int .i64 c3, .int .i64 c4, .int .i64 c5, .int .i64 c6] 23) := by
  have H := Lib.hid h
  clear h
  have S := Lib.hid s
  clear s
  go_enter Try.func32, Try.ntmps32
  go_wp2_with (first
      | (go_at_call_of 42 (Value.int .i64 c0); refine (wdwithin_yes _ _ _ _ p0 q0).mono ?_; rintro e w' ⟨rfl, rfl⟩)
      | (go_at_call_of 42 (Value.int .i64 c1); refine (wdwithin_yes _ _ _ _ p1 q1).mono ?_; rintro e w' ⟨rfl, rfl⟩)
      | (go_at_call_of 42 (Value.int .i64 c2); refine (wdwithin_yes _ _ _ _ p2 q2).mono ?_; rintro e w' ⟨rfl, rfl⟩)
      | (go_at_call 43; refine (sets_yes _ _ S.out).mono ?_; rintro e w' ⟨rfl, rfl⟩)
      | (go_at_call_of 42 (Value.int .i64 c4); refine (wdwithin_no _ _ _ _ H.out).mono ?_; rintro e w' ⟨rfl, rfl⟩))
  go_ret
  exact ⟨rfl, rfl⟩
theorem good_5 (c0 c1 c2 c3 c4 c5 c6 : Int) (w : World) (p0 : 1 ≤ c0) (q0 : c0 ≤ 8) (p1 : 2 ≤ c1) (q1 : c1 ≤ 64) (p2 : 1 ≤ c2) (q2 : c2 ≤ c1 - 1) (s : c3 = 1 ∨ c3 = 2 ∨ c3 = 4 ∨ c3 = 8) (p4 : 1 ≤ c4) (q4 : c4 ≤ 8) (h : ¬ (1 ≤ c5 ∧ c5 ≤ 16)) : Calls Try.prog 32 #[.agg #[.int .i64 c0, .int .i64 c1, .int .i64 c2, .int .i64 c3, .int .i64 c4, .int .i64 c5, .int .i64 c6]] w fun e w' => e = .returned (.bool false) ∧ w' = w.alloc (.cells #[.int .i64 c0, .int .i64 c1, .int .i64 c2, .int .i64 c3, .int .i64 c4, .int .i64 c5, .int .i64 c6] 23) := by
  have H := Lib.hid h
  clear h
  have S := Lib.hid s
  clear s
  go_enter Try.func32, Try.ntmps32
  go_wp2_with (first
      | (go_at_call_of 42 (Value.int .i64 c0); refine (wdwithin_yes _ _ _ _ p0 q0).mono ?_; rintro e w' ⟨rfl, rfl⟩)
      | (go_at_call_of 42 (Value.int .i64 c1); refine (wdwithin_yes _ _ _ _ p1 q1).mono ?_; rintro e w' ⟨rfl, rfl⟩)
      | (go_at_call_of 42 (Value.int .i64 c2); refine (wdwithin_yes _ _ _ _ p2 q2).mono ?_; rintro e w' ⟨rfl, rfl⟩)
      | (go_at_call 43; refine (sets_yes _ _ S.out).mono ?_; rintro e w' ⟨rfl, rfl⟩)
      | (go_at_call_of 42 (Value.int .i64 c4); refine (wdwithin_yes _ _ _ _ p4 q4).mono ?_; rintro e w' ⟨rfl, rfl⟩)
      | (go_at_call_of 42 (Value.int .i64 c5); refine (wdwithin_no _ _ _ _ H.out).mono ?_; rintro e w' ⟨rfl, rfl⟩))
  go_ret
  exact ⟨rfl, rfl⟩
theorem good_6 (c0 c1 c2 c3 c4 c5 c6 : Int) (w : World) (p0 : 1 ≤ c0) (q0 : c0 ≤ 8) (p1 : 2 ≤ c1) (q1 : c1 ≤ 64) (p2 : 1 ≤ c2) (q2 : c2 ≤ c1 - 1) (s : c3 = 1 ∨ c3 = 2 ∨ c3 = 4 ∨ c3 = 8) (p4 : 1 ≤ c4) (q4 : c4 ≤ 8) (p5 : 1 ≤ c5) (q5 : c5 ≤ 16) (h : ¬ (1 ≤ c6 ∧ c6 ≤ 16)) : Calls Try.prog 32 #[.agg #[.int .i64 c0, .int .i64 c1, .int .i64 c2, .int .i64 c3, .int .i64 c4, .int .i64 c5, .int .i64 c6]] w fun e w' => e = .returned (.bool false) ∧ w' = w.alloc (.cells #[.int .i64 c0, .int .i64 c1, .int .i64 c2, .int .i64 c3, .int .i64 c4, .int .i64 c5, .int .i64 c6] 23) := by
  have H := Lib.hid h
  clear h
  have S := Lib.hid s
  clear s
  go_enter Try.func32, Try.ntmps32
  go_wp2_with (first
      | (go_at_call_of 42 (Value.int .i64 c0); refine (wdwithin_yes _ _ _ _ p0 q0).mono ?_; rintro e w' ⟨rfl, rfl⟩)
      | (go_at_call_of 42 (Value.int .i64 c1); refine (wdwithin_yes _ _ _ _ p1 q1).mono ?_; rintro e w' ⟨rfl, rfl⟩)
      | (go_at_call_of 42 (Value.int .i64 c2); refine (wdwithin_yes _ _ _ _ p2 q2).mono ?_; rintro e w' ⟨rfl, rfl⟩)
      | (go_at_call 43; refine (sets_yes _ _ S.out).mono ?_; rintro e w' ⟨rfl, rfl⟩)
      | (go_at_call_of 42 (Value.int .i64 c4); refine (wdwithin_yes _ _ _ _ p4 q4).mono ?_; rintro e w' ⟨rfl, rfl⟩)
      | (go_at_call_of 42 (Value.int .i64 c5); refine (wdwithin_yes _ _ _ _ p5 q5).mono ?_; rintro e w' ⟨rfl, rfl⟩)
      | (go_at_call_of 42 (Value.int .i64 c6); refine (wdwithin_no _ _ _ _ H.out).mono ?_; rintro e w' ⟨rfl, rfl⟩))
  go_ret
  exact ⟨rfl, rfl⟩
theorem good_7 (c0 c1 c2 c3 c4 c5 c6 : Int) (w : World) (p0 : 1 ≤ c0) (q0 : c0 ≤ 8) (p1 : 2 ≤ c1) (q1 : c1 ≤ 64) (p2 : 1 ≤ c2) (q2 : c2 ≤ c1 - 1) (s : c3 = 1 ∨ c3 = 2 ∨ c3 = 4 ∨ c3 = 8) (p4 : 1 ≤ c4) (q4 : c4 ≤ 8) (p5 : 1 ≤ c5) (q5 : c5 ≤ 16) (p6 : 1 ≤ c6) (q6 : c6 ≤ 16) : Calls Try.prog 32 #[.agg #[.int .i64 c0, .int .i64 c1, .int .i64 c2, .int .i64 c3, .int .i64 c4, .int .i64 c5, .int .i64 c6]] w fun e w' => e = .returned (.bool true) ∧ w' = w.alloc (.cells #[.int .i64 c0, .int .i64 c1, .int .i64 c2, .int .i64 c3, .int .i64 c4, .int .i64 c5, .int .i64 c6] 23) := by
  have S := Lib.hid s
  clear s
  go_enter Try.func32, Try.ntmps32
  go_wp2_with (first
      | (go_at_call_of 42 (Value.int .i64 c0); refine (wdwithin_yes _ _ _ _ p0 q0).mono ?_; rintro e w' ⟨rfl, rfl⟩)
      | (go_at_call_of 42 (Value.int .i64 c1); refine (wdwithin_yes _ _ _ _ p1 q1).mono ?_; rintro e w' ⟨rfl, rfl⟩)
      | (go_at_call_of 42 (Value.int .i64 c2); refine (wdwithin_yes _ _ _ _ p2 q2).mono ?_; rintro e w' ⟨rfl, rfl⟩)
      | (go_at_call 43; refine (sets_yes _ _ S.out).mono ?_; rintro e w' ⟨rfl, rfl⟩)
      | (go_at_call_of 42 (Value.int .i64 c4); refine (wdwithin_yes _ _ _ _ p4 q4).mono ?_; rintro e w' ⟨rfl, rfl⟩)
      | (go_at_call_of 42 (Value.int .i64 c5); refine (wdwithin_yes _ _ _ _ p5 q5).mono ?_; rintro e w' ⟨rfl, rfl⟩)
      | (go_at_call_of 42 (Value.int .i64 c6); refine (wdwithin_yes _ _ _ _ p6 q6).mono ?_; rintro e w' ⟨rfl, rfl⟩))
  go_ret
  exact ⟨rfl, rfl⟩
/-- Is a configuration good? -/
def goodB (c0 c1 c2 c3 c4 c5 c6 : Int) : Bool := decide (1 ≤ c0 ∧ c0 ≤ 8 ∧ 2 ≤ c1 ∧ c1 ≤ 64 ∧ 1 ≤ c2 ∧ c2 ≤ c1 - 1 ∧ (c3 = 1 ∨ c3 = 2 ∨ c3 = 4 ∨ c3 = 8) ∧ 1 ≤ c4 ∧ c4 ≤ 8 ∧ 1 ≤ c5 ∧ c5 ≤ 16 ∧ 1 ≤ c6 ∧ c6 ≤ 16)
theorem good_any (c0 c1 c2 c3 c4 c5 c6 : Int) (w : World) : Calls Try.prog 32 #[.agg #[.int .i64 c0, .int .i64 c1, .int .i64 c2, .int .i64 c3, .int .i64 c4, .int .i64 c5, .int .i64 c6]] w fun e w' => e = .returned (.bool (goodB c0 c1 c2 c3 c4 c5 c6)) ∧ w' = w.alloc (.cells #[.int .i64 c0, .int .i64 c1, .int .i64 c2, .int .i64 c3, .int .i64 c4, .int .i64 c5, .int .i64 c6] 23) := by
  by_cases h0 : 1 ≤ c0 ∧ c0 ≤ 8
  rotate_left
  · have e : goodB c0 c1 c2 c3 c4 c5 c6 = false := by unfold goodB; simp only [decide_eq_false_iff_not]; omega
    rw [e]; exact good_0 c0 c1 c2 c3 c4 c5 c6 w h0
  by_cases h1 : 2 ≤ c1 ∧ c1 ≤ 64
  rotate_left
  · have e : goodB c0 c1 c2 c3 c4 c5 c6 = false := by unfold goodB; simp only [decide_eq_false_iff_not]; omega
    rw [e]; exact good_1 c0 c1 c2 c3 c4 c5 c6 w h0.1 h0.2 h1
  by_cases h2 : 1 ≤ c2 ∧ c2 ≤ c1 - 1
  rotate_left
  · have e : goodB c0 c1 c2 c3 c4 c5 c6 = false := by unfold goodB; simp only [decide_eq_false_iff_not]; omega
    rw [e]; exact good_2 c0 c1 c2 c3 c4 c5 c6 w h0.1 h0.2 h1.1 h1.2 h2
  by_cases h3 : c3 = 1 ∨ c3 = 2 ∨ c3 = 4 ∨ c3 = 8
  rotate_left
  · have e : goodB c0 c1 c2 c3 c4 c5 c6 = false := by unfold goodB; simp only [decide_eq_false_iff_not]; omega
    rw [e]; exact good_3 c0 c1 c2 c3 c4 c5 c6 w h0.1 h0.2 h1.1 h1.2 h2.1 h2.2 h3
  by_cases h4 : 1 ≤ c4 ∧ c4 ≤ 8
  rotate_left
  · have e : goodB c0 c1 c2 c3 c4 c5 c6 = false := by unfold goodB; simp only [decide_eq_false_iff_not]; omega
    rw [e]; exact good_4 c0 c1 c2 c3 c4 c5 c6 w h0.1 h0.2 h1.1 h1.2 h2.1 h2.2 h3 h4
  by_cases h5 : 1 ≤ c5 ∧ c5 ≤ 16
  rotate_left
  · have e : goodB c0 c1 c2 c3 c4 c5 c6 = false := by unfold goodB; simp only [decide_eq_false_iff_not]; omega
    rw [e]; exact good_5 c0 c1 c2 c3 c4 c5 c6 w h0.1 h0.2 h1.1 h1.2 h2.1 h2.2 h3 h4.1 h4.2 h5
  by_cases h6 : 1 ≤ c6 ∧ c6 ≤ 16
  rotate_left
  · have e : goodB c0 c1 c2 c3 c4 c5 c6 = false := by unfold goodB; simp only [decide_eq_false_iff_not]; omega
    rw [e]; exact good_6 c0 c1 c2 c3 c4 c5 c6 w h0.1 h0.2 h1.1 h1.2 h2.1 h2.2 h3 h4.1 h4.2 h5.1 h5.2 h6
  have e : goodB c0 c1 c2 c3 c4 c5 c6 = true := by unfold goodB; simp only [decide_eq_true_eq]; omega
  rw [e]; exact good_7 c0 c1 c2 c3 c4 c5 c6 w h0.1 h0.2 h1.1 h1.2 h2.1 h2.2 h3 h4.1 h4.2 h5.1 h5.2 h6.1 h6.2
end Go.Proofs.Ytnocekhgabgffaa
end
