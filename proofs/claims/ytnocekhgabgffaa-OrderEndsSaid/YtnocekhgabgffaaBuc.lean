/- What a core of a bus does: walked, the rest. No condition. -/
import Derived.Test.YtnocekhgabgffaaBub
namespace Go.Proofs.Ytnocekhgabgffaa
open Go.RowKit
set_option linter.unusedVariables false
set_option maxHeartbeats 1000000

set_option maxRecDepth 100000
attribute [local go_sem ↓] append_appS copy_copS clear_clrS make_mkS slice_slS lookup_lookS mput_mputS del_mdelS cell_row frozen_row heap_drew heap_drewN heap_alloc heap_past heap_setCell heap_putRow heap_setB loadEv storeEv loadBe storeBe loadSp storeSp loadNw storeNw loadLine storeLine evc_kd evc_co evc_li evc_wo evc_va bec_fl bec_li bec_wo bec_va nwC_0 nwC_1 spC_0 spC_1
attribute [local go_sem] rowCell_some rowFrozen_some rowHas_some rowIn_some rowPart_full rowPart_lit rowPut_full rowPut_lit rowSet_some size_putRow size_setB run_loadS run_storeS run_appS run_copS run_clrS run_mkS run_slS run_lookS run_mputS run_mdelS loadW_at storeW_at fit_all fit_le one_int one_bool one_pointer one_slice allOne_list putRow_new ne_size1 ne_size2 ne_size3 ne_size4 wideEv wideBe wideSp wideNw wideLine evc_size evc_one evc_ne evc_lit evc_z fold_evc bec_size bec_one bec_lit bec_ne bec_at bec_in spC_size spC_one nwC_size nwC_one nwC_ne nwC_set0 nwC_set1 nwC_lit bec_set0 bec_set1 bec_set2 bec_set3 spC_set0 spC_set1 spC_lit fold_spC spC_ne fold_nwC fold_bec fold_at vs_size vs_one ic_size ic_get
attribute [local simp ↓] heap_drew heap_drewN heap_alloc heap_past heap_setCell heap_putRow heap_setB
attribute [local simp] rowCell_some rowFrozen_some rowHas_some rowIn_some rowPart_full rowPart_lit rowPut_full rowPut_lit rowSet_some size_putRow size_setB fit_all putRow_new ne_size1 ne_size2 ne_size3 ne_size4 evc_size bec_size spC_size nwC_size vs_size fit_le
theorem take_any {w : World} {bc i : Nat} {xs : List Cx} {x : Cx} {g : List Nat} {c : Bc} {N : Nat} (h : CoIn w bc i xs x g c) (hs : c.Small N) (hN : N ≤ 1000000) (y : Be) :
    Calls Try.prog 62 #[.pointer (some ⟨bc, i * 9, none⟩), .agg (bec y)] w fun e w' => e = .returned (.bool (c.takeE y).isSome) ∧ ((∃ c', c.takeE y = some c' ∧ CoTo w bc i xs g c' w') ∨ (c.takeE y = none ∧ Chg [] w w')) := by
  obtain ⟨n1, n2⟩ := one_new w (.cells (bec y) 125)
  have h1 := h.keep n2 (by simp) (by simp)
  have N2 := Lib.hid n2
  have hlt : ∀ b ∈ g, b ≠ w.heap.size := by
    intro b hb e
    have := (h.co.old b hb).lt
    omega
  have hbw : bc ≠ w.heap.size := by have := (old h.hb).lt; omega
  clear n2 h
  cases hbuf : c.buf with
  | nil =>
    have e0 : c.takeE y = none := by simp [Bc.takeE, hbuf]
    rw [e0]
    go_enter Try.func62, Try.ntmps62
    go_upto_region 1 with fail
    generalize w.alloc (.cells (bec y) 125) = w1 at *
    generalize w.heap.size = p at *
    obtain ⟨hb, hx, ⟨hn, hst, hla, Fb, hs', hF, hv, ⟨om, hom, hmm⟩, ht, htm, hvt⟩, nd, nb⟩ := h1
    obtain ⟨c0, c1, c2, c3, c4, c5, c6, c7, c8⟩ := cx_cells hx
    rw [hn, hbuf] at c0
    have t0 : (((([] : List Be).length : Nat) : Int) == 0) = true := rfl
    clear hv ht hvt hmm hF hs hn hst hla
    go_quiet (fail)
    go_wp2_with fail
    go_ret
    exact ⟨by first | rfl | trivial, .inr ⟨by first | rfl | trivial, N2.out.drewN _⟩⟩
  | cons z l =>
    by_cases hzy : z = y
    · subst hzy
      have hbl := hs.buf
      have hsm := hs.sm
      rw [hbuf] at hbl
      simp only [List.length_cons] at hbl
      go_enter Try.func62, Try.ntmps62
      go_upto_region 1 with fail
      generalize w.alloc (.cells (bec z) 125) = w1 at *
      generalize w.heap.size = p at *
      have H1 := Lib.hid h1
      obtain ⟨hb, hx, ⟨hn, hst, hla, Fb, hs', hF, hv, ⟨om, hom, hmm⟩, ht, htm, hvt⟩, nd, nb⟩ := h1
      obtain ⟨c0, c1, c2, c3, c4, c5, c6, c7, c8⟩ := cx_cells hx
      have hle := hv.le
      rw [hbuf] at hv hle
      simp only [List.length_cons] at hle
      obtain ⟨be, o, C, hFe, hA, hbe, hin, hpart⟩ := hv.first Be.len
      rw [hn, hbuf, hA] at c0
      rw [← bec_enc] at hpart
      have HA := Lib.hid hA
      have e1 : (z :: l).length = l.length + 1 := rfl
      rw [e1] at c0
      have t0 : (((l.length : Nat) : Int) + 1 == 0) = false := by simp; omega
      have t1 : (0 : Int) < ((l.length : Nat) : Int) + 1 := by omega
      have hq := fun w => be_eq z z w
      rw [show decide (z = z) = true by simp] at hq
      clear hv hvt hmm hF hn hst hla hA hFe ht htm hle hom nd nb hs
      go_quiet (fail)
      have hn2 : (w1.drewN nq).heap[p]? = some (.cells (bec z) 125 (0, 0)) := by rw [heap_drewN]; exact n1
      have h2 := H1.out.keep ((Chg.refl [] w1).drewN nq) (by simp) (by simp)
      have N2' := Lib.hid (N2.out.drewN nq)
      clear c0 c1 c2 c3 c4 c5 c6 c7 c8 hb hx n1 H1 N2 hbe hin hpart
      generalize w1.drewN nq = w2 at *
      have H1 := Lib.hid h2
      obtain ⟨hb, hx, ⟨hn, hst, hla, Fb, hs', hF, hv, ⟨om, hom, hmm⟩, ht, htm, hvt⟩, nd, nb⟩ := h2
      obtain ⟨c0, c1, c2, c3, c4, c5, c6, c7, c8⟩ := cx_cells hx
      have hle := hv.le
      rw [hbuf] at hv hle
      simp only [List.length_cons] at hle
      have hv2 := hv.tail Be.len
      rw [hn, hbuf, e1] at c0
      have hne : x.ms ∈ g ∧ x.mt ∈ g := ⟨hF.mem_iff.2 (by simp), hF.mem_iff.2 (by simp)⟩
      have hFb : ∀ b ∈ Fb, b ∈ g := fun b hb => hF.mem_iff.2 (by simp [hb])
      have hms : x.ms ∉ Fb := by
        have hnd := hF.nodup_iff.1 nd
        simp only [List.nodup_cons, List.mem_cons, List.mem_append] at hnd
        exact fun h => hnd.1 (.inr (.inl h))
      have hmn : x.ms ≠ bc := fun e => nb (e ▸ hne.1)
      have hsl := fun w => slR_tail eltBe x.A l.length x.cap hle w
      go_upto_region 4 with fail
      have hb4 : (w2.setCell ⟨bc, i * 9, none⟩ (.slice (behind 4 x.A x.cap) l.length (x.cap - 1))).heap[bc]? = some (.cells (sq Cx.enc (xs.set i { x with A := behind 4 x.A x.cap, n := l.length, cap := x.cap - 1 }) []) 111 (0, 0)) := by
        rw [heap_setCell, if_pos rfl, hb, rowSet_some, cx_n hx]
      have c4' : Chg [bc] w2 (w2.setCell ⟨bc, i * 9, none⟩ (.slice (behind 4 x.A x.cap) l.length (x.cap - 1))) := (Chg.refl [bc] w2).setCell _ _ _ (.inl (by simp))
      generalize w2.setCell ⟨bc, i * 9, none⟩ (.slice (behind 4 x.A x.cap) l.length (x.cap - 1)) = w4 at *
      have n4 := c4'.keep hn2 (by simpa using Ne.symm hbw)
      have om4 := c4'.keep hom (by simpa using hmn)
      have hx4 : (xs.set i { x with A := behind 4 x.A x.cap, n := l.length, cap := x.cap - 1 })[i]? = some { x with A := behind 4 x.A x.cap, n := l.length, cap := x.cap - 1 } := by
        rw [List.getElem?_set_self ((List.getElem?_eq_some_iff.1 hx).1)]
      obtain ⟨d0, d1, d2, d3, d4, d5, d6, d7, d8⟩ := cx_cells hx4
      have K : ∀ w', Chg [x.ms] w4 w' → ∀ sm', MapAt spV w' x.ms (onA nwV sm') → CoTo w bc i xs g { c with buf := l, sm := sm' } w' := by
        intro w' hc sm' hmap
        have T0 : Chg (x.ms :: bc :: Fb) w2 w' := (c4'.mono (fun z hz => .inl (by simp at hz; simp [hz]))).trans (hc.mono (fun z hz => .inl (by simp at hz; simp [hz])))
        have T1 : Chg [x.ms, bc] w2 w' := (c4'.mono (fun z hz => .inl (by simp at hz; simp [hz]))).trans (hc.mono (fun z hz => .inl (by simp at hz; simp [hz])))
        have v4 : Vq 4 125 Be.enc w' Fb (behind 4 x.A x.cap) (x.cap - 1) l := hv2.keep T1 (fun u hu => by simp; exact ⟨fun e => hms (e ▸ hu), fun e => nb (e ▸ hFb u hu)⟩)
        refine (H1.out.made (buf' := l) hF ht htm hvt T0 ?_ v4 (fun u hu => .inl hu) hmap).of N2'.out
        exact hc.keep hb4 (by simpa using Ne.symm hmn)
      have K9 := Lib.hid K
      have HM := Lib.hid hmm
      have OM4 := Lib.hid om4
      have hmp : x.ms ≠ p := hlt _ hne.1
      clear K hv2 hv ht htm hvt hF hle hx4 hx hlt hms hst hla hFb hne c4' hbl hsl c0 c1 c2 c3 c4 c5 c6 c7 c8 d0 d2 d3 d4 d5 d6 d7 d8 t0 t1 e1 hq hb hn2 hom nd nb hn HA H1
      cases hf : z.fl
      · have hlk := look_sm (ms := x.ms) hmm z.li z.wo
        have e0 : c.takeE z = some { c with buf := l, sm := takeSm c.sm (z.li, z.wo) } := by simp [Bc.takeE, hbuf, hf]
        unfold takeSm at e0
        have hm1 : -(N : Int) ≤ (newO c.sm (z.li, z.wo)).1 ∧ (newO c.sm (z.li, z.wo)).1 ≤ N := by
          unfold newO
          cases h : lookA (z.li, z.wo) c.sm with
          | none => simp
          | some r => exact hsm _ (lookA_mem h)
        obtain ⟨hm1, hm2⟩ := hm1
        generalize newO c.sm (z.li, z.wo) = r at *
        obtain ⟨o', ho', hput⟩ := put_sm (ms := x.ms) hmm z.li z.wo (r.1 - 1) r.2
        have hN' : (N : Int) ≤ 1000000 := by omega
        have E0 := Lib.hid e0
        have HO' := Lib.hid ho'
        clear e0 ho' hsm
        go_upto_region 6 with fail
        go_region
        have b5 : (putRow (w4.alloc (.cells (nwC 0 0) 118)).drew w4.heap.size 0 (nwC r.fst r.snd)).heap[w4.heap.size]? = some (.cells (nwC r.1 r.2) 118 (0, 0)) := by
          have h0 : (w4.alloc (.cells (nwC 0 0) 118)).drew.heap[w4.heap.size]? = some (.cells (nwC 0 0) 118 (0, 0)) := (MapKept.heap_alloc w4 _).1
          rw [heap_putRow _ _ _ _ _ (by rw [h0, rowHas_some]; rfl), if_pos rfl, h0]; exact rowPut_full (nwC 0 0) _ _ (nwC r.1 r.2) (by simp [nwC_size])
        have c5 : Chg [] w4 (putRow (w4.alloc (.cells (nwC 0 0) 118)).drew w4.heap.size 0 (nwC r.fst r.snd)) := (((Chg.refl [] w4).alloc _).drew).putRow _ _ _ (.inr (Nat.le_refl _))
        have q1 : w4.heap.size ≠ x.ms := by have := lt_heap om4; omega
        have q2 : w4.heap.size ≠ bc := by have := lt_heap hb4; omega
        have q3 : w4.heap.size ≠ p := by have := lt_heap n4; omega
        generalize putRow (w4.alloc (.cells (nwC 0 0) 118)).drew w4.heap.size 0 (nwC r.fst r.snd) = w5 at *
        generalize hq5 : w4.heap.size = q5 at *
        have HQ5 := Lib.hid hq5
        clear hq5
        have n5 := c5.keep n4 (by simp)
        have om5 := c5.keep om4 (by simp)
        have hb5 := c5.keep hb4 (by simp)
        have C5 := Lib.hid c5
        clear n4 om4 hb4 c5
        go_upto_region 8 with fail
        have b6 : (w5.setCell ⟨q5, 0, none⟩ (.int .i64 (r.1 - 1))).heap[q5]? = some (.cells (nwC (r.1 - 1) r.2) 118 (0, 0)) := by rw [heap_setCell, if_pos rfl, b5, rowSet_some, nwC_set0]
        have c6 : Chg [q5] w5 (w5.setCell ⟨q5, 0, none⟩ (.int .i64 (r.1 - 1))) := (Chg.refl [q5] w5).setCell _ _ _ (.inl (by simp))
        generalize w5.setCell ⟨q5, 0, none⟩ (.int .i64 (r.1 - 1)) = w6 at *
        have n6 := c6.keep n5 (by simpa using Ne.symm q3)
        have om6 := c6.keep om5 (by simpa using Ne.symm q1)
        have hb6 := c6.keep hb5 (by simpa using Ne.symm q2)
        have C6 := Lib.hid c6
        clear n5 om5 hb5 c6 b5
        go_region
        have b7 : (setB w6.drew x.ms o').heap[q5]? = some (.cells (nwC (r.1 - 1) r.2) 118 (0, 0)) := by rw [heap_setB, if_neg q1]; exact b6
        have n7 : (setB w6.drew x.ms o').heap[p]? = some (.cells (bec z) 125 (0, 0)) := by rw [heap_setB, if_neg (Ne.symm hmp)]; exact n6
        have hb7 := (((Chg.refl [x.ms] w6).drew).setB x.ms o' (.inl (by simp))).keep hb6 (by simpa using Ne.symm hmn)
        have om7 : (setB w6.drew x.ms o').heap[x.ms]? = some o' := by rw [heap_setB, if_pos rfl, heap_drew, om6]; rfl
        have c7 : Chg [x.ms] w6 (setB w6.drew x.ms o') := ((Chg.refl [x.ms] w6).drew).setB _ _ (.inl (by simp))
        generalize setB w6.drew x.ms o' = w7 at *
        have C7 := Lib.hid c7
        have D7 : Chg [x.ms] w4 w7 := (((C5.out.trans' C6.out (by simp; have := HQ5.out; omega)).mono (by simp)).trans c7)
        have HD7 := Lib.hid D7
        have OM7 := Lib.hid om7
        clear n6 om6 hb6 b6 c7 D7 hput hlk hmm
        by_cases h0 : r.1 - 1 = 0
        · obtain ⟨o'', ho'', hdel⟩ := del_sm (ms := x.ms) HO'.out z.li z.wo 0
          have t0 : (r.1 - 1 == 0) = true := by simpa using h0
          have HO'' := Lib.hid ho''
          have HH := Lib.hid h0
          clear ho'' h0
          go_wp2_with fail
          go_region
          go_wp2_with fail
          go_ret
          rw [E0.out, if_pos HH.out]
          exact ⟨rfl, .inl ⟨_, rfl, K9.out _ (HD7.out.trans (((Chg.refl [x.ms] w7).drew).setB _ _ (.inl (by simp)))) _ ⟨o'', by rw [heap_setB, if_pos rfl, heap_drew, OM7.out]; rfl, HO''.out⟩⟩⟩
        · have t0 : (r.1 - 1 == 0) = false := by simpa using h0
          have HH := Lib.hid h0
          clear h0
          go_wp2_with fail
          go_ret
          rw [E0.out, if_neg HH.out]
          exact ⟨rfl, .inl ⟨_, rfl, K9.out w7 HD7.out _ ⟨o', OM7.out, HO'.out⟩⟩⟩
      · go_wp2_with fail
        go_ret
        have e0 : c.takeE z = some { c with buf := l, sm := c.sm } := by simp [Bc.takeE, hbuf, hf]
        rw [e0]
        exact ⟨rfl, .inl ⟨_, rfl, K9.out w4 (Chg.refl _ _) c.sm ⟨om, OM4.out, HM.out⟩⟩⟩
    · have e0 : c.takeE y = none := by simp [Bc.takeE, hbuf, hzy]
      rw [e0]
      go_enter Try.func62, Try.ntmps62
      go_upto_region 1 with fail
      generalize w.alloc (.cells (bec y) 125) = w1 at *
      generalize w.heap.size = p at *
      obtain ⟨hb, hx, ⟨hn, hst, hla, Fb, hs', hF, hv, ⟨om, hom, hmm⟩, ht, htm, hvt⟩, nd, nb⟩ := h1
      obtain ⟨c0, c1, c2, c3, c4, c5, c6, c7, c8⟩ := cx_cells hx
      have hle := hv.le
      rw [hbuf] at hv
      obtain ⟨be, o, C, hFe, hA, hbe, hin, hpart⟩ := hv.first Be.len
      rw [hn, hbuf, hA] at c0
      rw [← bec_enc] at hpart
      have t0 : ((((z :: l).length : Nat) : Int) == 0) = false := by simp; omega
      have t1 : (0 : Int) < (((z :: l).length : Nat) : Int) := by simp
      have hq := fun w => be_eq z y w
      rw [show decide (z = y) = false by simpa using hzy] at hq
      clear hv ht hvt hmm hF hs hn hst hla hA hzy hFe
      generalize (z :: l).length = n at *
      go_quiet (fail)
      go_wp2_with fail
      go_ret
      exact ⟨by first | rfl | trivial, .inr ⟨by first | rfl | trivial, N2.out.drewN _⟩⟩
end Go.Proofs.Ytnocekhgabgffaa
