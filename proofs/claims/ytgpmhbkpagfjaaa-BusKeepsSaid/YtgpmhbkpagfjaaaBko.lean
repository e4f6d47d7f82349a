/- BusKeeps: walked. No condition. -/
import Derived.Test.YtgpmhbkpagfjaaaBkq
import Derived.Test.YtgpmhbkpagfjaaaWordc
import Derived.Test.YtgpmhbkpagfjaaaBlc
namespace Go.Proofs.Ytgpmhbkpagfjaaa
open Go.RowKit
set_option linter.unusedVariables false
set_option maxHeartbeats 1000000

set_option maxRecDepth 100000
attribute [local go_sem ↓] append_appS copy_copS clear_clrS make_mkS slice_slS lookup_lookS mput_mputS del_mdelS cell_row frozen_row heap_drew heap_drewN heap_alloc heap_past heap_setCell heap_putRow heap_setB loadEv storeEv loadBe storeBe loadSp storeSp loadNw storeNw loadLine storeLine evc_kd evc_co evc_li evc_wo evc_va bec_fl bec_li bec_wo bec_va nwC_0 nwC_1 spC_0 spC_1
attribute [local go_sem] rowCell_some rowFrozen_some rowHas_some rowIn_some rowPart_full rowPart_lit rowPut_full rowPut_lit rowSet_some size_putRow size_setB run_loadS run_storeS run_appS run_copS run_clrS run_mkS run_slS run_lookS run_mputS run_mdelS loadW_at storeW_at fit_all fit_le one_int one_bool one_pointer one_slice allOne_list putRow_new ne_size1 ne_size2 ne_size3 ne_size4 wideEv wideBe wideSp wideNw wideLine evc_size evc_one evc_ne evc_lit evc_z fold_evc bec_size bec_one bec_lit bec_ne bec_at bec_in spC_size spC_one nwC_size nwC_one nwC_ne nwC_set0 nwC_set1 nwC_lit bec_set0 bec_set1 bec_set2 bec_set3 spC_set0 spC_set1 spC_lit fold_spC spC_ne fold_nwC fold_bec fold_at vs_size vs_one ic_size ic_get
attribute [local simp ↓] heap_drew heap_drewN heap_alloc heap_past heap_setCell heap_putRow heap_setB
attribute [local simp] rowCell_some rowFrozen_some rowHas_some rowIn_some rowPart_full rowPart_lit rowPut_full rowPut_lit rowSet_some size_putRow size_setB fit_all putRow_new ne_size1 ne_size2 ne_size3 ne_size4 evc_size bec_size spC_size nwC_size vs_size fit_le
theorem keyed {C Cont : World → Prop} {G : Prop} (main : (∀ w, C w → Cont w) → G) (kp : ∀ w, C w → Cont w) : G := main kp
theorem evs_info : (Try.prog.info? 24).map (fun i => (i.zero, i.size, i.bytes)) = some (some (.slice none 0 0), 1, 24) := by kernel_rfl
theorem made_slices (n : Nat) : madeCells #[Value.slice none 0 0] (n * 1) = svc (List.replicate n svZ) := by
  apply Array.ext
  · simp [madeCells, svc]
  · intro i h1 h2
    simp [madeCells, svc, Nat.mod_one, Sv.val, svZ]
theorem run_make_slices (w : World) (n : Nat) (hn : n ≤ 64) : mkR Try.prog 32 (.int .i64 n) (.int .i64 n) w = .ok (.slice (some ⟨w.heap.size, 0, none⟩) n n) (w.alloc (.cells (svc (List.replicate n svZ)) 24)) := by
  obtain ⟨i0, hi0, hz0, hz1, hz2⟩ := info_parts evs_info
  have := run_make (P := Try.prog) w 32 24 i0 _ Try.underlying32 hi0 hz0 .i64 .i64 n n (by omega) (by omega) (by rw [hz2]; omega) (by omega)
  simp only [Int.toNat_natCast, hz1] at this
  rw [← made_slices]
  exact this
theorem BusW.pre {n m q p : Nat} {W w1 w2 : World} {S : Bs} (h : BusW n m w1 w2 q S) (hc : Chg [] W w1) (hp : p < w1.heap.size) : BusX n m W w2 q S [p] := by
  obtain ⟨F, h1, h2, h3⟩ := h
  have := hc.size
  have := h3.size
  exact ⟨F, h1, fun z hz => by have := h2 z hz; omega, hc.trans h3, fun z hz => by
    simp only [List.mem_singleton] at hz; subst hz
    exact ⟨fun hF => by have := h2 _ hF; omega, by omega⟩⟩
theorem KM.begin {n m q pc bf bs bm : Nat} {W w w' : World} {S : Bs} (h : BusX n m W w q S [pc]) (hc : Chg [] w w') (h1 : w.heap.size ≤ bf) (h2 : w.heap.size ≤ bs) (h3 : w.heap.size ≤ bm) (n1 : bf ≠ bs) (n2 : bf ≠ bm) (n3 : bs ≠ bm)
    (e1 : w'.heap[bf]? = some (.cells (bk (List.replicate (n * 8) 0) []) 42 (0, 0))) (e2 : w'.heap[bs]? = some (.cells (svc (List.replicate n svZ)) 24 (0, 0))) (e3 : w'.heap[bm]? = some (.cells (ic (List.replicate n 0)) 3 (0, 0))) :
    KM W w' n m q S (List.replicate (n * 8) 0) (sinceOf g0) (mnOf n g0) [] [] [] bf bs bm none none none 0 0 0 [] [] [] [pc] (List.replicate n svZ) [] [] := by
  have hs := h.all.size
  have hm : mnOf n g0 = List.replicate n 0 := by
    apply List.ext_getElem?
    intro k
    by_cases hk : k < n
    · rw [mnOf_get _ hk]; simp [g0, hk]
    · rw [List.getElem?_eq_none (by rw [mnOf_len]; omega), List.getElem?_eq_none (by simp; omega)]
  obtain ⟨F, g1, g2, g3, g4⟩ := h
  have hp := (g4 pc (by simp)).2
  refine ⟨e1, e2, by simp, fun k v hv => ?_, by rw [hm]; exact e3, by rw [mnOf_len], Vq.nil _ _ _ _, Vq.nil _ _ _ _, rfl, by simp, Vq.nil _ _ _ _, rfl, by simp, by simp; omega, fun z hz => by simp at hz ⊢; omega, fun z hz => by simp at hz; omega, ?_⟩
  · have : v = svZ := List.eq_of_mem_replicate (List.mem_of_getElem? hv)
    subst this
    exact ⟨Rd.nil _ _ _, rfl⟩
  · refine BusX.add ⟨F, g1, g2, g3, g4⟩ (l := []) hc (by simp) (fun z hz => ?_)
    simp only [List.append_nil, List.mem_append, List.mem_cons, List.not_mem_nil, or_false] at hz
    have q1 := lt_heap e1; have q2 := lt_heap e2; have q3 := lt_heap e3
    rcases hz with (rfl | rfl | rfl) | rfl
    · exact .inr ⟨h1, q1⟩
    · exact .inr ⟨h2, q2⟩
    · exact .inr ⟨h3, q3⟩
    · exact .inl (by simp)
theorem three_new (w : World) (x y z : Obj) : (((w.alloc x).alloc y).alloc z).heap[w.heap.size]? = some x ∧ (((w.alloc x).alloc y).alloc z).heap[w.heap.size + 1]? = some y ∧ (((w.alloc x).alloc y).alloc z).heap[w.heap.size + 1 + 1]? = some z ∧
    Chg [] w (((w.alloc x).alloc y).alloc z) ∧ (w.alloc x).heap.size = w.heap.size + 1 ∧ ((w.alloc x).alloc y).heap.size = w.heap.size + 1 + 1 := by
  have s1 : (w.alloc x).heap.size = w.heap.size + 1 := by simp
  have s2 : ((w.alloc x).alloc y).heap.size = w.heap.size + 1 + 1 := by simp
  have a1 := (MapKept.heap_alloc w x).1
  have a2 := (MapKept.heap_alloc (w.alloc x) y).1
  have a3 := (MapKept.heap_alloc ((w.alloc x).alloc y) z).1
  rw [s1] at a2
  rw [s2] at a3
  exact ⟨(((Chg.refl [] (w.alloc x)).alloc y).alloc z).keep a1 (by simp), ((Chg.refl [] ((w.alloc x).alloc y)).alloc z).keep a2 (by simp), a3, (((Chg.refl [] w).alloc x).alloc y).alloc z, s1, s2⟩
/-- At the head of a round. -/
def KS (W wr : World) (n m q pc bf bs bm : Nat) (C : Array Value) (j : Nat) (S : Bs) (g : Nat → Kl) (fi : List Int) (Z : List Snt) (As Aw Af : Option Addr) (cs cw cf : Nat) : Prop :=
  ∃ (Fs Fw Ff R : List Nat) (svs ws fr : List Sv), KM W wr n m q S fi (sinceOf g) (mnOf n g) (Z.map (·.e)) (Z.map (·.ws)) (Z.map (·.fs)) bf bs bm As Aw Af cs cw cf Fs Fw Ff R svs ws fr ∧ pc ∈ R ∧ wr.heap[pc]? = some (.cells C 23 (0, 0)) ∧
    S.Ok n m j ∧ KI n m S g fi Z ∧ Z.length ≤ j ∧ ∀ k, 0 ≤ (g k).M ∧ (g k).M + (g k).H.length ≤ j
attribute [local go_sem ↓] loadCf storeCf evc_set0 evc_set1 evc_set2 evc_set3 evc_set4
attribute [local go_sem] wideCf
set_option maxHeartbeats 8000000 in
theorem bkeeps_any (c0 c1 c2 c3 c4 c5 c6 : Int) (A : Option Addr) (N cN : Nat) (xs : List Value) (W : World) (hA : Sl W 5 A N xs) (hN : N ≤ maxLen) (hk : ∀ i, i < N → AreKd W kEv14 ((xs.drop (i * 5)).take 5)) :
    Calls Try.prog 3 #[.agg #[.int .i64 c0, .int .i64 c1, .int .i64 c2, .int .i64 c3, .int .i64 c4, .int .i64 c5, .int .i64 c6], .slice A N cN] W fun e w' => e = .returned (.bool true) ∧ Chg [] W w' := by
  unfold maxLen at hN
  have HA := Lib.hid hA
  have HK := Lib.hid hk
  clear hA hk
  obtain ⟨n1, n2⟩ := one_new W (.cells #[.int .i64 c0, .int .i64 c1, .int .i64 c2, .int .i64 c3, .int .i64 c4, .int .i64 c5, .int .i64 c6] 23)
  have N2 := Lib.hid n2
  have lp : W.heap.size < (W.alloc (.cells #[.int .i64 c0, .int .i64 c1, .int .i64 c2, .int .i64 c3, .int .i64 c4, .int .i64 c5, .int .i64 c6] 23)).heap.size := lt_heap n1
  have LP := Lib.hid lp
  clear n2 lp
  go_enter Try.func3, Try.ntmps3
  try dsimp only [List.append]
  go_upto_region 1 with fail
  generalize W.alloc (.cells #[.int .i64 c0, .int .i64 c1, .int .i64 c2, .int .i64 c3, .int .i64 c4, .int .i64 c5, .int .i64 c6] 23) = w1 at *
  generalize W.heap.size = pc at *
  by_cases h400 : 400 < N
  · have t0 : (400 : Int) < (N : Int) := by omega
    go_wp2_with (go_at_call 8; refine (wakes_any _).mono ?_; rintro r w6 ⟨rfl, c6⟩; have C6 := Lib.hid c6; clear c6)
    go_ret
    exact ⟨rfl, N2.out.trans C6.out⟩
  have t0 : ¬ (400 : Int) < (N : Int) := by omega
  have hg := fun w => wdrgood_any c0 c1 c2 c3 c4 c5 c6 w
  cases hb : goodB c0 c1 c2 c3 c4 c5 c6 with
  | false =>
    rw [hb] at hg
    have HG := Lib.hid hg
    clear hg hb
    go_wp2_with (first | (go_at_call 8; refine (wakes_any _).mono ?_; rintro r w6 ⟨rfl, c6⟩; have C6 := Lib.hid c6; clear c6) | (go_at_call 7; refine (HG.out _).mono ?_; rintro e w3 ⟨rfl, hw3⟩; have C3 := Lib.hid (show Chg [] w1 w3 from hw3 ▸ (Chg.refl [] w1).alloc _); clear hw3))
    go_ret
    exact ⟨rfl, (N2.out.trans C3.out).trans C6.out⟩
  | true =>
    rw [hb] at hg
    have HG := Lib.hid hg
    have HB := Lib.hid hb
    have hb' := of_decide_eq_true hb
    obtain ⟨a1, a2, a3, a4, a5, a6, _⟩ := hb'
    obtain ⟨m, rfl⟩ : ∃ m : Nat, c0 = m := ⟨c0.toNat, by omega⟩
    obtain ⟨n, rfl⟩ : ∃ n : Nat, c1 = n := ⟨c1.toNat, by omega⟩
    obtain ⟨v, rfl⟩ : ∃ v : Nat, c2 = v := ⟨c2.toNat, by omega⟩
    have hm8 : m ≤ 8 := by omega
    have hn64 : n ≤ 64 := by omega
    have hvn : v < n := by omega
    clear hg hb a1 a2 a3 a4 a5 a6
    go_upto_region 3 with (go_at_call 7; refine (HG.out _).mono ?_; rintro e w3 ⟨rfl, hw3⟩; have c3' : Chg [] w1 w3 := hw3 ▸ (Chg.refl [] w1).alloc _; have n3 := c3'.keep n1 (by simp); have C3 := Lib.hid (N2.out.trans c3'); have L3 := Lib.hid (show pc < w3.heap.size from Nat.lt_of_lt_of_le LP.out c3'.size); clear hw3 c3' n1)
    go_upto_region 6 with (go_at_call 9; refine (new_w m n v c3 c4 c5 c6 HB.out _).mono ?_; rintro e w4 ⟨q, rfl, h0⟩; have n4 := h0.all.keep n3 (by simp); have H0 := Lib.hid (h0.pre C3.out L3.out); clear h0 n3)
    clear N2 LP C3 L3 HG
    have hml := fun w => run_make_lines w n hn64
    have hms := fun w => run_make_slices w n hn64
    have hmi := fun w => run_make_ints w n hn64
    go_upto_region 12 with fail
    obtain ⟨e1, e2, e3, hc, z1, z2⟩ := three_new w4 (.cells (bk (List.replicate (n * 8) 0) []) 42) (.cells (svc (List.replicate n svZ)) 24) (.cells (ic (List.replicate n 0)) 3)
    have hm0 : mnOf n g0 = List.replicate n 0 := by
      apply List.ext_getElem?
      intro k
      by_cases hk : k < n
      · rw [mnOf_get _ hk]; simp [g0, hk]
      · rw [List.getElem?_eq_none (by rw [mnOf_len]; omega), List.getElem?_eq_none (by simp; omega)]
    have k0 := KM.begin H0.out hc (bf := w4.heap.size) (bs := w4.heap.size + 1) (bm := w4.heap.size + 1 + 1) (by omega) (by omega) (by omega) (by omega) (by omega) (by omega) e1 e2 e3
    have pc0 := hc.keep n4 (by simp)
    have KS0 := Lib.hid (show KS W _ n m q pc _ _ _ #[.int .i64 m, .int .i64 n, .int .i64 v, .int .i64 c3, .int .i64 c4, .int .i64 c5, .int .i64 c6] 0 (bs0 n m v) g0 (List.replicate (n * 8) 0) [] none none none 0 0 0 from ⟨[], [], [], [pc], _, [], [], k0, by simp, pc0, bs0_ok (by omega) (by omega) (by omega) (by omega), KI.start n m v, Nat.le_refl _, fun k => ⟨Int.le_refl _, Int.le_refl _⟩⟩)
    clear hml hms hmi n4 H0 e1 e2 e3 hc z1 z2 hm0 k0 pc0 HB
    generalize (((w4.alloc (.cells (bk (List.replicate (n * 8) 0) []) 42)).alloc (.cells (svc (List.replicate n svZ)) 24)).alloc (.cells (ic (List.replicate n 0)) 3)) = w5 at *
    generalize w4.heap.size + 1 + 1 = bm at *
    generalize w4.heap.size + 1 = bs at *
    generalize w4.heap.size = bf at *
    have hvol : (bs0 n m v).vol = v := rfl
    go_wp2_with fail
    go_loopw [9, 10, 11, 13] (fun s9 s10 s11 i wr => ∃ (j : Nat) (S : Bs) (g : Nat → Kl) (fi : List Int) (Z : List Snt) (As Aw Af : Option Addr) (cs cw cf : Nat), j ≤ N ∧ i = .int .i64 j ∧ s9 = .slice As Z.length cs ∧ s10 = .slice Aw Z.length cw ∧ s11 = .slice Af Z.length cf ∧ S.vol = v ∧ KS W wr n m q pc bf bs bm #[.int .i64 m, .int .i64 n, .int .i64 v, .int .i64 c3, .int .i64 c4, .int .i64 c5, .int .i64 c6] j S g fi Z As Aw Af cs cw cf) (fun _ _ _ i _ => N - (intOf i).toNat)
    case atStart => exact ⟨0, _, _, _, _, _, _, _, _, _, _, by omega, rfl, rfl, rfl, rfl, rfl, KS0.out⟩
    case round =>
      clear KS0 hvol
      obtain ⟨j, S, g, fi, Z, As, Aw, Af, cs, cw, cf, hj, rfl, rfl, rfl, rfl, hvol, Fs, Fw, Ff, R, svs, ws, fr, h1, h2, h3, h4, h5, h6, h7⟩ := hrel
      have K0 := Lib.hid h1
      have PR := Lib.hid h2
      have OK := Lib.hid h4
      have KI0 := Lib.hid h5
      have ZL := Lib.hid h6
      have MB := Lib.hid h7
      have HV := Lib.hid hvol
      clear h1 h2 h4 h5 h6 h7 hvol
      by_cases hlt : j < N
      · have g1 : (j : Int) < (N : Int) := by omega
        have g0' : (0 : Int) ≤ (j : Int) := by omega
        have g3 : (N : Int) ≤ 400 := by omega
        obtain ⟨x, b1, o1, cA, tA, fA, rfl, rA, rAi, rAp⟩ := ev_row14 HA.out hlt (HK.out j hlt) K0.out.bx.all
        have K1 := Lib.hid (K0.out.more (ey := [wr.heap.size]) ((Chg.refl [] wr).alloc (.cells (evc x) 38)) (fun z hz => by simp only [List.mem_singleton] at hz; subst hz; simp))
        have p3 := ((Chg.refl [] wr).alloc (.cells (evc x) 38)).keep h3 (by simp)
        go_upto_region 16 with fail
        have n1 : (wr.alloc (.cells (evc x) 38)).heap[wr.heap.size]? = some (.cells (evc x) 38 (0, 0)) := (MapKept.heap_alloc wr _).1
        clear rA rAi rAp h3 K0
        generalize wr.alloc (.cells (evc x) 38) = w3 at *
        generalize wr.heap.size = p at *
        go_upto_region 17 with (go_at_call 10; refine (by { obtain ⟨F, g1, _⟩ := K1.out.bx; exact bkept_ok g1 OK.out } : Calls Try.prog 10 _ _ (LinesOf _ n S.ks)).mono ?_; rintro e w4 ⟨kb, kc, kr, rfl, kh, kg, kl, kd⟩; have K2 := Lib.hid (K1.out.more kd (ey := [kb]) (fun z hz => by simp only [List.mem_singleton] at hz; subst hz; exact ⟨kg, lt_heap kh⟩)); have n2 := kd.keep n1 (by simp); have p4 := kd.keep p3 (by simp); clear kd kg n1 p3 K1)
        cases hd : doB S x with
        | none =>
          as_aux_lemma =>
          go_wp2_with (go_at_call 11; refine (do_x K2.out.bx OK.out (by omega) _).mono ?_; rintro e w5 ⟨rfl, hb, he⟩; have K3 := Lib.hid (K2.out.moved hb he); have p5 := (he pc (by simp [PR.out])).trans p4; clear hb he; rw [hd] at K3 ⊢)
          go_roundw
          case rel => exact ⟨j + 1, S, g, fi, Z, As, Aw, Af, cs, cw, cf, by omega, by go_num, rfl, rfl, rfl, HV.out, Fs, Fw, Ff, _, svs, ws, fr, K3.out, by simp [PR.out], p5, OK.out.mono (Nat.le_succ j), KI0.out, by have := ZL.out; omega, fun k => by have := MB.out k; omega⟩
          case measure =>
            show N - ((j : Int) + 1).toNat < N - ((j : Int)).toNat
            omega
        | some T =>
          have hT : T.Ok n m (j + 1) := by have := do_ok OK.out x; rw [hd] at this; exact this
          have HT := Lib.hid hT
          have HD := Lib.hid hd
          have hTv : T.vol = v := (do_vol hd).trans HV.out
          have HTV := Lib.hid hTv
          clear hT hTv
          go_upto_region 20 with (go_at_call 11; refine (do_x K2.out.bx OK.out (by omega) _).mono ?_; rintro e w5 ⟨rfl, hb, he⟩; have K3 := Lib.hid (K2.out.moved hb he); have p5 := (he pc (by simp [PR.out])).trans p4; have n5 := (he p (by simp)).trans n2; have kh5 := (he kb (by simp)).trans kh; clear hb he p4 n2 kh; rw [hd] at K3 ⊢)
          clear K2 hd HV
          by_cases h3 : x.kd = 3
          · as_aux_lemma =>
            have t3 : (x.kd == 3) = true := by simpa using h3
            obtain ⟨ki, ⟨l0, l1⟩, _⟩ := KI0.out.step_store OK.out HD.out h3
            have KI1 := Lib.hid ki
            obtain ⟨l, hl⟩ : ∃ l : Nat, x.li = l := ⟨x.li.toNat, by omega⟩
            have hln : l < n := by omega
            have hle : (l : Int) < (n : Int) := by omega
            have hlt0 : x.li.toNat = l := by omega
            have HLT := Lib.hid hlt0
            obtain ⟨v0, hv0⟩ : ∃ v0, svs[l]? = some v0 := ⟨svs[l]'(by rw [K3.out.sl]; exact hln), List.getElem?_eq_getElem _⟩
            obtain ⟨⟨r1, r2, r3⟩, r4⟩ := K3.out.sv l v0 hv0
            have hcell : (svc svs)[l]? = some (.slice v0.A (sinceOf g l).length v0.cap) := by rw [svc_get, hv0, ← r4]; rfl
            rw [r4] at r1
            generalize hys : sinceOf g l = ys at *
            have hfp := (KI0.out.fp l hln)
            have hyl : ys.length ≤ 400 := by have := MB.out l; have := (show ys.length ≤ (g l).H.length by rw [← hys]; unfold sinceOf; rw [List.length_drop]; omega); omega
            have hs5 := K3.out.hs
            have op5 := old n5
            have os5 := old hs5
            have opc5 := old p5
            have HS := Lib.hid r1
            have nbp : p ≠ bs := fun e => (K3.out.ro p (by simp)) (by simp [e])
            have nbc : pc ≠ bs := fun e => (K3.out.ro pc (by simp [PR.out])) (by simp [e])
            have NB := Lib.hid (And.intro nbp nbc)
            have FP := Lib.hid hfp
            have HYS := Lib.hid hys
            clear nbp nbc hfp hys hlt0 h3 l0 l1 ki r1 r2 r3 r4 kh5
            have cA := ((Chg.refl [] w5).alloc (.cells #[] 38)).drew
            have cC := ((Chg.refl [] w5).alloc (.cells (evc x) 38)).drew
            have cAC := (((Chg.refl [] w5).alloc (.cells #[] 38)).alloc (.cells (evc x) 38)).drew
            have cCA := (((Chg.refl [] w5).alloc (.cells (evc x) 38)).alloc (.cells #[] 38)).drew
            obtain ⟨be1, p1, A1, w6, e1, v1, m1, k1, k1'⟩ := clone14 (ty := 24) eltEv14 (c := v0.cap) cA op5 (eb := w5.heap.size) (by simp) (Nat.le_refl _) (HS.out.chg cA (by simp)) rfl (by omega) (by unfold maxLen; omega)
            have k1a := k1.alloc (.cells (evc x) 38)
            obtain ⟨be2, p2, A2, w7, e2, v2, m2, k2⟩ := snoc14 (ty := 24) eltEv14 (y := x) (b := w6.heap.size) k1a op5 (v1.keep ((Chg.refl [] w6).alloc (.cells (evc x) 38)) (by simp)) m1 rfl (by simp [evc]) (by omega) (by unfold maxLen; omega)
            obtain ⟨be3, p3, A3, w8, e3, v3, m3, k3, k3'⟩ := clone14 (ty := 24) eltEv14 (c := v0.cap) cAC op5 (eb := w5.heap.size) (by simp) (Nat.le_refl _) (HS.out.chg cAC (by simp)) rfl (by omega) (by unfold maxLen; omega)
            obtain ⟨be4, p4, A4, w9, e4, v4, m4, k4⟩ := snoc14 (ty := 24) eltEv14 (y := x) (b := w5.heap.size + 1) k3 op5 v3 m3 rfl (k3'.keep (by simp [evc]) (by simp)) (by omega) (by unfold maxLen; omega)
            obtain ⟨be5, p5', A5, w10, e5, v5, m5, k5, k5'⟩ := clone14 (ty := 24) eltEv14 (c := v0.cap) cCA op5 (eb := w5.heap.size + 1) (by simp) (by omega) (HS.out.chg cCA (by simp)) rfl (by omega) (by unfold maxLen; omega)
            obtain ⟨be6, p6, A6, w11, e6, v6, m6, k6⟩ := snoc14 (ty := 24) eltEv14 (y := x) (b := w5.heap.size) k5 op5 v5 m5 rfl (k5'.keep (by simp [evc]) (by simp)) (by omega) (by unfold maxLen; omega)
            have n6 := k1.keep n5 (by simp)
            have s6 := k1.keep hs5 (by simp)
            have op6 := old n6
            have os6 := old s6
            have s7 := k2.keep hs5 (by simp)
            have s9 := k4.keep hs5 (by simp)
            have s11 := k6.keep hs5 (by simp)
            have n8 := k3.keep n5 (by simp)
            have n10 := k5.keep n5 (by simp)
            have s8 := k3.keep hs5 (by simp)
            have s10 := k5.keep hs5 (by simp)
            have op8 := old n8
            have os8 := old s8
            have op10 := old n10
            have os10 := old s10
            have n7 := k2.keep n5 (by simp)
            have n9 := k4.keep n5 (by simp)
            have n11 := k6.keep n5 (by simp)
            have hln' : (ys ++ [x]).length = ys.length + 1 := by simp
            have Q2 := Lib.hid (show (fun w6 : World => (∃ (be : Nat) (A' : Option Addr) (cap' : Nat), KM W w6 n m q T fi (fun k => if k = l then ys ++ [x] else sinceOf g k) (mnOf n g) (Z.map (·.e)) (Z.map (·.ws)) (Z.map (·.fs)) bf bs bm As Aw Af cs cw cf Fs Fw Ff (R ++ [p] ++ [kb] ++ [be]) (svs.set l ⟨A', ys.length + 1, cap'⟩) ws fr) ∧ w6.heap[p]? = some (.cells (evc x) 38 (0, 0)) ∧ w6.heap[pc]? = some (.cells #[.int .i64 m, .int .i64 n, .int .i64 v, .int .i64 c3, .int .i64 c4, .int .i64 c5, .int .i64 c6] 23 (0, 0))) (w7.setCell ⟨bs, l, none⟩ (.slice A2 (ys.length + 1) p2)) from ⟨⟨be2, A2, p2, K3.out.stored k2 v2 (op5.chg k2) m2 hln'⟩, by rw [heap_setCell, if_neg NB.out.1]; exact k2.keep n5 (by simp), by rw [heap_setCell, if_neg NB.out.2]; exact k2.keep p5 (by simp)⟩)
            have Q4 := Lib.hid (show (fun w6 : World => (∃ (be : Nat) (A' : Option Addr) (cap' : Nat), KM W w6 n m q T fi (fun k => if k = l then ys ++ [x] else sinceOf g k) (mnOf n g) (Z.map (·.e)) (Z.map (·.ws)) (Z.map (·.fs)) bf bs bm As Aw Af cs cw cf Fs Fw Ff (R ++ [p] ++ [kb] ++ [be]) (svs.set l ⟨A', ys.length + 1, cap'⟩) ws fr) ∧ w6.heap[p]? = some (.cells (evc x) 38 (0, 0)) ∧ w6.heap[pc]? = some (.cells #[.int .i64 m, .int .i64 n, .int .i64 v, .int .i64 c3, .int .i64 c4, .int .i64 c5, .int .i64 c6] 23 (0, 0))) (w9.setCell ⟨bs, l, none⟩ (.slice A4 (ys.length + 1) p4)) from ⟨⟨be4, A4, p4, K3.out.stored k4 v4 (op5.chg k4) m4 hln'⟩, by rw [heap_setCell, if_neg NB.out.1]; exact k4.keep n5 (by simp), by rw [heap_setCell, if_neg NB.out.2]; exact k4.keep p5 (by simp)⟩)
            have Q6 := Lib.hid (show (fun w6 : World => (∃ (be : Nat) (A' : Option Addr) (cap' : Nat), KM W w6 n m q T fi (fun k => if k = l then ys ++ [x] else sinceOf g k) (mnOf n g) (Z.map (·.e)) (Z.map (·.ws)) (Z.map (·.fs)) bf bs bm As Aw Af cs cw cf Fs Fw Ff (R ++ [p] ++ [kb] ++ [be]) (svs.set l ⟨A', ys.length + 1, cap'⟩) ws fr) ∧ w6.heap[p]? = some (.cells (evc x) 38 (0, 0)) ∧ w6.heap[pc]? = some (.cells #[.int .i64 m, .int .i64 n, .int .i64 v, .int .i64 c3, .int .i64 c4, .int .i64 c5, .int .i64 c6] 23 (0, 0))) (w11.setCell ⟨bs, l, none⟩ (.slice A6 (ys.length + 1) p6)) from ⟨⟨be6, A6, p6, K3.out.stored k6 v6 (op5.chg k6) m6 hln'⟩, by rw [heap_setCell, if_neg NB.out.1]; exact k6.keep n5 (by simp), by rw [heap_setCell, if_neg NB.out.2]; exact k6.keep p5 (by simp)⟩)
            clear v1 m1 k1 k1' k1a v2 m2 k2 v3 m3 k3 k3' v4 m4 k4 v5 m5 k5 k5' v6 m6 k6 cA cC cAC cCA hln'
            go_upto_region 22 with fail
            go_region
            all_goals
              refine world_cut (fun w6 : World => (∃ (be : Nat) (A' : Option Addr) (cap' : Nat), KM W w6 n m q T fi (fun k => if k = l then ys ++ [x] else sinceOf g k) (mnOf n g) (Z.map (·.e)) (Z.map (·.ws)) (Z.map (·.fs)) bf bs bm As Aw Af cs cw cf Fs Fw Ff (R ++ [p] ++ [kb] ++ [be]) (svs.set l ⟨A', ys.length + 1, cap'⟩) ws fr) ∧ w6.heap[p]? = some (.cells (evc x) 38 (0, 0)) ∧ w6.heap[pc]? = some (.cells #[.int .i64 m, .int .i64 n, .int .i64 v, .int .i64 c3, .int .i64 c4, .int .i64 c5, .int .i64 c6] 23 (0, 0))) (by first | (with_reducible exact Q2.out) | (with_reducible exact Q4.out) | (with_reducible exact Q6.out)) ?_
              as_aux_lemma =>
              clear Q2 Q4 Q6 n5 n6 n7 n8 n10 n9 n11 hs5 s6 s7 s8 s9 s10 s11 op5 os5 op6 os6 op8 os8 op10 os10 e1 e2 e3 e4 e5 e6 p5 K3 hcell opc5
              rintro w12 ⟨⟨be, A', cap', K4⟩, n12, p12⟩
              have K4' := Lib.hid K4
              have hmb := K4.hm
              have npb : pc ≠ bm := fun e => (K4.ro pc (by simp [PR.out])) (by simp [e])
              have NPB := Lib.hid npb
              obtain ⟨mv, hmv⟩ : ∃ mv, mv = (g l).M + ((g l).H.length : Int) := ⟨_, rfl⟩
              have hmc : (ic (mnOf n g))[l]? = some (.int .i64 mv) := by rw [ic_get, mnOf_get _ hln, hmv]; rfl
              have hb0 : 0 ≤ mv := by have := MB.out l; omega
              have hb1 : mv ≤ 400 := by have := MB.out l; omega
              have HMV := Lib.hid hmv
              clear hmv npb K4
              have hf3 := FP.out
              have KF := Lib.hid (show KS W (w12.setCell ⟨bm, l, none⟩ (.int .i64 (mv + 1))) n m q pc bf bs bm #[.int .i64 m, .int .i64 n, .int .i64 v, .int .i64 c3, .int .i64 c4, .int .i64 c5, .int .i64 c6] (j + 1) T (gSt g l x) fi Z As Aw Af cs cw cf from ⟨Fs, Fw, Ff, _, _, ws, fr, by
                rw [since_store (by omega), mnOf_store _ _ hln, HYS.out, ← HMV.out]; exact K4'.out.setMany (mv + 1), by simp [PR.out], by rw [heap_setCell, if_neg NPB.out]; exact p12, HT.out, by have := KI1.out; rw [HLT.out] at this; exact this, by have := ZL.out; omega, fun k => by
                have := MB.out k
                unfold gSt
                split
                · rename_i ek; subst ek; simp only [List.length_append, List.length_singleton]; omega
                · omega⟩)
              clear hf3 K4'
              go_wp2_with fail
              go_roundw
              case rel => exact ⟨j + 1, T, gSt g l x, fi, Z, As, Aw, Af, cs, cw, cf, by omega, by go_num, rfl, rfl, rfl, HTV.out, KF.out⟩
              case measure =>
                show N - ((j : Int) + 1).toNat < N - ((j : Int)).toNat
                omega
          by_cases h13 : x.kd = 13
          · as_aux_lemma =>
            have t3 : (x.kd == 3) = false := by simpa using h3
            have t13 : (x.kd == 13) = true := by simpa using h13
            have ki := KI0.out.step_send OK.out HD.out h13 (fs := mnOf n g) (mnOf_len n g) (fun k hk => mnOf_get g hk)
            have KI1 := Lib.hid ki
            have zl := ZL.out
            clear ki h3 h13 kh5
            have k4 := K3.out.chg ((Chg.refl [] w5).alloc (.cells (evc x) 38))
            have b4 : (w5.alloc (.cells (evc x) 38)).heap[w5.heap.size]? = some (.cells (evc x) 38 (0, 0)) := (MapKept.heap_alloc w5 _).1
            have n4' := ((Chg.refl [] w5).alloc (.cells (evc x) 38)).keep n5 (by simp)
            have p4' := ((Chg.refl [] w5).alloc (.cells (evc x) 38)).keep p5 (by simp)
            obtain ⟨F1, cap1, B1, w6, e1, k6, kr6⟩ := k4.appSent b4 (by rw [List.length_map]; omega)
            rw [List.length_map] at e1
            have n6 := (kr6 p (by simp)).trans n4'
            have p6 := (kr6 pc (by simp [PR.out])).trans p4'
            have K6 := Lib.hid k6
            have HL6 := Lib.hid HT.out
            clear k4 b4 n4' p4' k6 kr6
            go_upto_region 26 with fail
            clear e1 n5 p5 K3
            go_upto_region 27 with (go_at_call 12; refine (by { obtain ⟨F, g1, _⟩ := K6.out.bx; exact blines_ok g1 HL6.out } : Calls Try.prog 12 _ _ (LinesOf _ n T.ls)).mono ?_; rintro e w7 ⟨gb, gc, gr, rfl, gh, gg, gl, gd⟩; have k7 := (K6.out.more gd (ey := [gb]) (fun z hz => by simp only [List.mem_singleton] at hz; subst hz; exact ⟨gg, lt_heap gh⟩)).chg ((Chg.refl [] w7).alloc (.cells #[.slice (some ⟨gb, 0, none⟩) n gc] 31)); have n7 := ((Chg.refl [] w7).alloc (.cells #[.slice (some ⟨gb, 0, none⟩) n gc] 31)).keep (gd.keep n6 (by simp)) (by simp); have p7 := ((Chg.refl [] w7).alloc (.cells #[.slice (some ⟨gb, 0, none⟩) n gc] 31)).keep (gd.keep p6 (by simp)) (by simp); obtain ⟨F2, cap2, B2, w8, e2, k8, kr8⟩ := k7.appWas (v := ⟨some ⟨gb, 0, none⟩, n, gc⟩) (xs := T.ls) (b := w7.heap.size) (MapKept.heap_alloc w7 _).1 (by rw [List.length_map]; omega) ⟨gb, gc, gr, rfl, gl, by simp, ((Chg.refl [] w7).alloc _).keep gh (by simp)⟩; rw [List.length_map] at e2; have n8 := (kr8 p (by simp)).trans n7; have p8 := (kr8 pc (by simp [PR.out])).trans p7; have K8 := Lib.hid k8; clear k7 n7 p7 k8 kr8 gd gh gg gl n6 p6 K6)
            clear e2
            have cE := (Chg.refl [] w8).alloc (.cells #[] 3)
            obtain ⟨be, cap3, B3, w9, e3, v3, m3, k3, k3'⟩ := clone14 (ty := 35) eltI (c := n) cE (old K8.out.hf) (eb := w8.heap.size) (by simp) (Nat.le_refl _) (ic_sl (cE.keep K8.out.hm (by simp)) (mnOf_len n g)) (mnOf_len n g) (by omega) (by unfold maxLen; omega)
            have cG := (Chg.refl [] w9).alloc (.cells #[.slice B3 n cap3] 35)
            have k9 := (K8.out.more k3 (ey := [be]) (fun z hz => by simp only [List.mem_singleton] at hz; subst hz; exact ⟨m3, (v3.old ((old K8.out.hf).chg k3)).lt⟩)).chg cG
            have n9 := cG.keep (k3.keep n8 (by simp)) (by simp)
            have p9 := cG.keep (k3.keep p8 (by simp)) (by simp)
            obtain ⟨F3, cap4, B4, w10, e4, k10, kr10⟩ := k9.appFrom (v := ⟨B3, n, cap3⟩) (xs := mnOf n g) (b := w9.heap.size) (MapKept.heap_alloc w9 _).1 (by rw [List.length_map]; omega) ⟨rfl, (v3.keep cG (by simp)).rd intEnc_len (mnOf_len n g) (by simp)⟩
            rw [List.length_map] at e4
            have p10 := (kr10 pc (by simp [PR.out])).trans p9
            obtain ⟨z, hz⟩ : ∃ z : Snt, z = ⟨x, fun k => (g k).H.length, T.ls, mnOf n g⟩ := ⟨_, rfl⟩
            have KF := Lib.hid (show KS W w10 n m q pc bf bs bm #[.int .i64 m, .int .i64 n, .int .i64 v, .int .i64 c3, .int .i64 c4, .int .i64 c5, .int .i64 c6] (j + 1) T g fi (Z ++ [z]) B1 B2 B4 cap1 cap2 cap4 from ⟨F1, F2, F3, _, svs, _, _, by
              subst hz
              simp only [List.map_append, List.map_cons, List.map_nil]
              exact k10, by simp [PR.out], p10, HT.out, by subst hz; exact KI1.out, by simp; omega, fun k => by have := MB.out k; omega⟩)
            clear cE v3 m3 k3 k3' cG k9 n9 p9 k10 kr10 p10 hz n8 p8 K8
            go_upto_region 28 with fail
            clear e3 e4
            go_wp2_with fail
            go_roundw
            case rel => exact ⟨j + 1, T, g, fi, Z ++ [z], B1, B2, B4, cap1, cap2, cap4, by omega, by go_num, by rw [List.length_append]; rfl, by rw [List.length_append]; rfl, by rw [List.length_append]; rfl, HTV.out, KF.out⟩
            case measure =>
              show N - ((j : Int) + 1).toNat < N - ((j : Int)).toNat
              omega
          by_cases h6 : x.kd = 6
          · as_aux_lemma =>
            have t3 : (x.kd == 3) = false := by simpa using h3
            have t13 : (x.kd == 13) = false := by simpa using h13
            have t6 : (x.kd == 6) = true := by simpa using h6
            obtain ⟨⟨l0, l1⟩, ⟨q0, q1⟩, hex, hall⟩ := KI0.out.step_answer OK.out HD.out h6
            obtain ⟨l, hl⟩ : ∃ l : Nat, x.li = l := ⟨x.li.toNat, by omega⟩
            have hln : l < n := by omega
            have HALL := Lib.hid hall
            have HEX := Lib.hid hex
            have HL := Lib.hid hl
            have HLN := Lib.hid hln
            have zl := ZL.out
            have ZL0 : ∀ z ∈ Z, Zok n g z := KI0.out.zs
            have ZS := Lib.hid ZL0
            have FP := Lib.hid (KI0.out.fp l hln)
            have HFL := Lib.hid KI0.out.fl
            clear hall hex h3 h13 h6 q0 q1 l0 l1 kh5 hl hln ZL0
            go_wp2_with fail
            go_loopw [16] (fun i wr => ∃ k : Nat, k ≤ Z.length ∧ i = .int .i64 k ∧ KM W wr n m q T fi (sinceOf g) (mnOf n g) (Z.map (·.e)) (Z.map (·.ws)) (Z.map (·.fs)) bf bs bm As Aw Af cs cw cf Fs Fw Ff (R ++ [p] ++ [kb]) svs ws fr ∧ wr.heap[p]? = some (.cells (evc x) 38 (0, 0)) ∧ wr.heap[pc]? = some (.cells #[.int .i64 m, .int .i64 n, .int .i64 v, .int .i64 c3, .int .i64 c4, .int .i64 c5, .int .i64 c6] 23 (0, 0)) ∧ ∀ y ∈ Z.take k, y.mt x.co x.li = false) (fun i _ => Z.length - (intOf i).toNat)
            case atStart => exact ⟨0, by omega, rfl, K3.out, n5, p5, by simp⟩
            case round =>
              clear K3 n5 p5
              obtain ⟨k, hk, rfl, k3, n5, p5, hno⟩ := hrel
              have K3 := Lib.hid k3
              have HNO := Lib.hid hno
              clear k3 hno
              by_cases hlt2 : k < Z.length
              · obtain ⟨z, hz⟩ : ∃ z, Z[k]? = some z := ⟨_, List.getElem?_eq_getElem hlt2⟩
                have HZ := Lib.hid hz
                obtain ⟨be, o, C, hFs, hAs, hb1, hc1, hc2⟩ := K3.out.sentAt (k := k) (x := z.e) (by simp [hz])
                obtain ⟨bw, ow, b, cc, r, Cw, tw, fw, hFw, hAw, hbw, hcw, hcc, hbR, hbb⟩ := K3.out.wasAt (k := k) (z := z.ws) (by simp [hz])
                subst hAs
                subst hAw
                have g4 : (k : Int) < (Z.length : Int) := by omega
                clear hz
                by_cases hco : z.e.co = x.co
                · have u1 : (z.e.co != x.co) = false := by simp [hco]
                  by_cases hli : z.e.li = x.li
                  · have u2 : (z.e.li != x.li) = false := by simp [hli]
                    as_aux_lemma =>
                    have HM := show z.mt x.co x.li = true by unfold Snt.mt; simp [hco, hli]
                    go_wp2_with fail
                    go_quiet (fail)
                    have k6 := K3.out.chg ((Chg.refl [] wr).drewN nq)
                    have n6 : (wr.drewN nq).heap[p]? = some (.cells (evc x) 38 (0, 0)) := n5
                    have p6 : (wr.drewN nq).heap[pc]? = some (.cells #[.int .i64 m, .int .i64 n, .int .i64 v, .int .i64 c3, .int .i64 c4, .int .i64 c5, .int .i64 c6] 23 (0, 0)) := p5
                    have e3 := HL.out
                    clear K3 n5 p5 hb1 hbw hbb
                    have K6 := Lib.hid k6
                    clear k6
                    generalize wr.drewN nq = w6 at K6 n6 p6 ⊢
                    have hln := HLN.out
                    have hle : (l : Int) < (n : Int) := by omega
                    have hle0 : (0 : Int) ≤ (l : Int) := by omega
                    have zok := ZS.out z (List.mem_of_getElem? HZ.out)
                    have hzs := zok.s l hln
                    obtain ⟨fv, hfv⟩ : ∃ fv, fv = (g l).M + (z.s l : Int) := ⟨_, rfl⟩
                    obtain ⟨nn, hnn⟩ : ∃ nn : Nat, nn = (g l).H.length - z.s l := ⟨_, rfl⟩
                    have hmb := MB.out l
                    have b0 : 0 ≤ fv := by omega
                    have b1 : fv + (nn : Int) ≤ 400 := by omega
                    have b2 : (0 : Int) ≤ (nn : Int) := by omega
                    have hmc : (ic (mnOf n g))[l]? = some (.int .i64 (fv + (nn : Int))) := by
                      rw [ic_get, mnOf_get _ hln, show (g l).M + ((g l).H.length : Int) = fv + (nn : Int) by omega]; rfl
                    have hmB := K6.out.hm
                    obtain ⟨bF, oF, b3, ob3, c3', CF, tF, fF, D, tD, fD, hFf, hAf, hbF, hcF, hb3, hD⟩ := K6.out.fromAt (k := k) (l := l) (z := z.fs) (v := fv) (by simp [HZ.out]) hln (by rw [zok.m l hln, hfv]) zok.fl
                    subst hAf
                    have HFV := Lib.hid hfv
                    have HNN := Lib.hid hnn
                    have HZS := Lib.hid hzs
                    have HMB := Lib.hid hmb
                    have HZW := Lib.hid zok.wl
                    clear hfv hnn hzs hmb zok hco hli u1 u2
                    go_wp2_with fail
                    go_quiet (fail)
                    have k7 := K6.out.chg ((Chg.refl [] w6).drewN nq)
                    have n7 : (w6.drewN nq).heap[p]? = some (.cells (evc x) 38 (0, 0)) := n6
                    have p7 : (w6.drewN nq).heap[pc]? = some (.cells #[.int .i64 m, .int .i64 n, .int .i64 v, .int .i64 c3, .int .i64 c4, .int .i64 c5, .int .i64 c6] 23 (0, 0)) := p6
                    have K7 := Lib.hid k7
                    clear K6 n6 p6 k7 hmB hbF hb3 hmc hcF hD
                    generalize w6.drewN nq = w7 at K7 n7 p7 ⊢
                    rw [show fv + (nn : Int) - fv = (nn : Int) by omega]
                    obtain ⟨v0, hv0⟩ : ∃ v0, svs[l]? = some v0 := ⟨svs[l]'(by rw [K7.out.sl]; exact hln), List.getElem?_eq_getElem _⟩
                    obtain ⟨⟨r1, r2, r3⟩, r4⟩ := K7.out.sv l v0 hv0
                    have hcell : (svc svs)[l]? = some (.slice v0.A (sinceOf g l).length v0.cap) := by rw [svc_get, hv0, ← r4]; rfl
                    rw [r4] at r1 r2
                    have hyl : (sinceOf g l).length = (g l).H.length - (g l).f := by unfold sinceOf; rw [List.length_drop]
                    have hfp := FP.out
                    have HYL := Lib.hid hyl
                    have HALLZ := Lib.hid (HALL.out (Z.take k) (Z.drop (k + 1)) z (off_at HZ.out).1 HNO.out HM)
                    obtain ⟨oe1, oe2⟩ := off_map (Z.take k) (Z.drop (k + 1)) z
                    rw [← (off_at HZ.out).1] at oe1 oe2
                    have OE1 := Lib.hid oe1
                    have OE2 := Lib.hid oe2
                    have OE3 := Lib.hid (off_at HZ.out).2
                    clear oe1 oe2 r3 hyl
                    have hsB := K7.out.hs
                    by_cases hfs : (g l).f ≤ z.s l
                    · as_aux_lemma =>
                      have q1 : (nn : Int) ≤ ((sinceOf g l).length : Int) := by have := HNN.out; have := HYL.out; have := HZS.out; omega
                      have hsi : sinceOf (gFl g l (z.s l)) = fun k => if k = l then (sinceOf g l).drop ((sinceOf g l).length - nn) else sinceOf g k := by
                        rw [since_flush, show (sinceOf g l).length - nn = z.s l - (g l).f by have := HNN.out; have := HYL.out; have := HZS.out; omega, since_back hfs]
                      have HSI := Lib.hid hsi
                      have kiF := HALLZ.out
                      rw [HL.out, Int.toNat_natCast, if_pos hfs, if_pos hfs] at kiF
                      have KIF := Lib.hid kiF
                      have HFS := Lib.hid hfs
                      clear hsi kiF hfs
                      generalize hys : sinceOf g l = ys at *
                      have HYS := Lib.hid hys
                      clear hys
                      have q2 : ys.length ≤ 400 := by have := HYL.out; have := HMB.out; omega
                      obtain ⟨A1, hs1, hs2⟩ := slR_back (P := Try.prog) (t := 24) eltEv14 (lo := ys.length - nn) r1 (by omega) r2
                      have hs3 : ∀ W, slR Try.prog 24 (.slice v0.A ys.length v0.cap) (some (.int .i64 ((ys.length : Int) - (nn : Int)))) none none W = .ok (.slice A1 nn (v0.cap - (ys.length - nn))) W := fun W => by
                        have := hs1 W
                        rw [show ((ys.length - nn : Nat) : Int) = (ys.length : Int) - (nn : Int) by omega, show ys.length - (ys.length - nn) = nn by omega] at this
                        exact this
                      rw [show ys.length - (ys.length - nn) = nn by omega] at hs2
                      clear hs1 r1 r2
                      have op7 := old n7
                      have os7 := old hsB
                      have cA := ((Chg.refl [] w7).alloc (.cells #[] 38)).drew
                      have hdl : (ys.drop (ys.length - nn)).length = nn := by rw [List.length_drop]; omega
                      obtain ⟨be1, p1, A3, w8, e1, v1, m1, k1, k1'⟩ := clone14 (ty := 24) eltEv14 (c := v0.cap - (ys.length - nn)) cA op7 (eb := w7.heap.size) (by simp) (Nat.le_refl _) (hs2.chg cA (by simp)) hdl (by omega) (by unfold maxLen; omega)
                      have hx8 : (ln z.ws l).length = 8 := ln_length _ _ (show l * 8 + 8 ≤ z.ws.length by have := HZW.out; omega)
                      have hfit : Fit (l * 8) 8 fi.length := show l * 8 + 8 ≤ fi.length by have := HFL.out; omega
                      obtain ⟨bw', ow', b', cc', r', Cw', tw', fw', hFw', hAw', hbw', hcw', hcc', hbR', hbb'⟩ := K7.out.wasAt (k := k) (z := z.ws) (by simp [HZ.out])
                      injection hAw' with hAw'
                      injection hAw' with ea eb
                      subst ea
                      subst eb
                      have n8 := k1.keep n7 (by simp)
                      have s8 := k1.keep hsB (by simp)
                      have f7 := K7.out.hf
                      have f8 := k1.keep f7 (by simp)
                      have hw8 := k1.keep hbw' (by simp)
                      have hb8 := k1.keep hbb' (by simp)
                      have hfz : Fit (l * 8) 8 z.ws.length := show l * 8 + 8 ≤ z.ws.length by have := HZW.out; omega
                      have rp := rowPart_bk hfz r' 42 (0, 0)
                      have ri := rowIn_bk hfz r' 42 (0, 0)
                      have rh := rowHas_bk hfit [] 42
                      have hF1 : Fit (l * 8) 8 (bk z.ws r').size := by rw [bk_size]; exact fit_more hfz _
                      have hF2 : Fit (l * 8) 8 (bk fi []).size := by rw [bk_size]; exact fit_more hfit _
                      have hbb9 : rowHas (w8.heap[bf]?) (l * 8) (vs (ln z.ws l)).size = true := by rw [f8, vs_size, hx8]; exact rh
                      have s9 : (putRow w8 bf (l * 8) (vs (ln z.ws l))).heap[bs]? = some (.cells (svc svs) 24 (0, 0)) := by rw [heap_putRow _ _ _ _ _ hbb9, if_neg K7.out.ne.1.symm]; exact s8
                      have nbs : bs ≠ bf := K7.out.ne.1.symm
                      have npf : p ≠ bf := (K7.out.ne.2.2.2.2.2.2.2 p (by simp)).1
                      have nps : p ≠ bs := (K7.out.ne.2.2.2.2.2.2.2 p (by simp)).2.1
                      have KK := Lib.hid (K7.out.flushed k1 v1 (op7.chg k1) m1 hdl hx8 hfit)
                      go_upto_region 36 with fail
                      go_region
                      as_aux_lemma =>
                      have npcf : pc ≠ bf := (K7.out.ne.2.2.2.2.2.2.2 pc (by simp [PR.out])).1
                      have npcs : pc ≠ bs := (K7.out.ne.2.2.2.2.2.2.2 pc (by simp [PR.out])).2.1
                      have p8 := k1.keep p7 (by simp)
                      have n9 : ((putRow w8 bf (l * 8) (vs (ln z.ws l))).setCell ⟨bs, l, none⟩ (.slice A3 nn p1)).heap[p]? = some (.cells (evc x) 38 (0, 0)) := by rw [heap_setCell, if_neg nps, heap_putRow _ _ _ _ _ hbb9, if_neg npf]; exact n8
                      have p9 : ((putRow w8 bf (l * 8) (vs (ln z.ws l))).setCell ⟨bs, l, none⟩ (.slice A3 nn p1)).heap[pc]? = some (.cells #[.int .i64 m, .int .i64 n, .int .i64 v, .int .i64 c3, .int .i64 c4, .int .i64 c5, .int .i64 c6] 23 (0, 0)) := by rw [heap_setCell, if_neg npcs, heap_putRow _ _ _ _ _ hbb9, if_neg npcf]; exact p8
                      have K9 := KK
                      clear KK K7 n7 p7 n8 p8 s8 s9 f7 f8 hw8 hb8 hbb9 rp ri rh hF1 hF2 hfz hfit hx8 hs2 hs3 e1 v1 m1 k1 k1' cA op7 os7 hdl nbs npf nps npcf npcs hsB hbw' hcw' hcc' hbR' hbb' hcell hv0 r4
                      generalize ((putRow w8 bf (l * 8) (vs (ln z.ws l))).setCell ⟨bs, l, none⟩ (.slice A3 nn p1)) = w9 at K9 n9 p9 ⊢
                      obtain ⟨be', o', C', _, hA', hb9, hc9, _⟩ := K9.out.sentAt (k := k) (x := z.e) (by simp [HZ.out])
                      injection hA' with hA'
                      injection hA' with e1 e2
                      subst e1
                      subst e2
                      obtain ⟨k10, kr10⟩ := K9.out.setCore (k := k) (x := z.e) (by simp [HZ.out]) rfl (-1)
                      have p10 := (kr10 pc (by simp [PR.out])).trans p9
                      have ofl : (Z.take k ++ z.off :: Z.drop (k + 1)).length = Z.length := by
                        have := congrArg List.length OE1.out
                        simpa using this
                      have OFL := Lib.hid ofl
                      have KF := Lib.hid (show KS W (w9.setCell ⟨be, o + k * 5 + 1, none⟩ (.int .i64 (-1))) n m q pc bf bs bm #[.int .i64 m, .int .i64 n, .int .i64 v, .int .i64 c3, .int .i64 c4, .int .i64 c5, .int .i64 c6] (j + 1) T (gFl g l (z.s l)) (lnPut fi l (ln z.ws l)) (Z.take k ++ z.off :: Z.drop (k + 1)) (some ⟨be, o, none⟩) (some ⟨bw, ow, none⟩) (some ⟨bF, oF, none⟩) cs cw cf from ⟨[be], Fw, Ff, _, _, ws, fr, by
                        rw [HSI.out, mnOf_flush, OE3.out, OE1.out, OE2.out]
                        exact k10, by simp [PR.out], p10, HT.out, KIF.out, by rw [ofl]; omega, fun i => by
                        have := MB.out i
                        unfold gFl
                        split
                        · rename_i ei; subst ei; exact ⟨this.1, by have := this.2; show (g i).M + ((g i).H.length : Int) ≤ _; omega⟩
                        · omega⟩)
                      clear k10 kr10 p10 ofl K9
                      go_wp2_with fail
                      go_roundw
                      case rel => exact ⟨j + 1, T, (gFl g l (z.s l)), (lnPut fi l (ln z.ws l)), Z.take k ++ z.off :: Z.drop (k + 1), some ⟨be, o, none⟩, some ⟨bw, ow, none⟩, some ⟨bF, oF, none⟩, cs, cw, cf, by omega, by go_num, by rw [OFL.out], by rw [OFL.out], by rw [OFL.out], HTV.out, KF.out⟩
                      case measure =>
                        show N - ((j : Int) + 1).toNat < N - ((j : Int)).toNat
                        omega
                    · as_aux_lemma =>
                      have q1 : ¬ (nn : Int) ≤ ((sinceOf g l).length : Int) := by have := HNN.out; have := HYL.out; have := HZS.out; omega
                      have kiF := HALLZ.out
                      rw [HL.out, Int.toNat_natCast, if_neg hfs, if_neg hfs] at kiF
                      have KIF := Lib.hid kiF
                      have K9 := K7
                      have n9 := n7
                      have p9 := p7
                      have nl := HYL.out
                      clear kiF hfs K7 n7 p7
                      generalize (sinceOf g l).length = yl at *
                      obtain ⟨be', o', C', _, hA', hb9, hc9, _⟩ := K9.out.sentAt (k := k) (x := z.e) (by simp [HZ.out])
                      injection hA' with hA'
                      injection hA' with e1 e2
                      subst e1
                      subst e2
                      obtain ⟨k10, kr10⟩ := K9.out.setCore (k := k) (x := z.e) (by simp [HZ.out]) rfl (-1)
                      have p10 := (kr10 pc (by simp [PR.out])).trans p9
                      have ofl : (Z.take k ++ z.off :: Z.drop (k + 1)).length = Z.length := by
                        have := congrArg List.length OE1.out
                        simpa using this
                      have OFL := Lib.hid ofl
                      have KF := Lib.hid (show KS W (w7.setCell ⟨be, o + k * 5 + 1, none⟩ (.int .i64 (-1))) n m q pc bf bs bm #[.int .i64 m, .int .i64 n, .int .i64 v, .int .i64 c3, .int .i64 c4, .int .i64 c5, .int .i64 c6] (j + 1) T g fi (Z.take k ++ z.off :: Z.drop (k + 1)) (some ⟨be, o, none⟩) (some ⟨bw, ow, none⟩) (some ⟨bF, oF, none⟩) cs cw cf from ⟨[be], Fw, Ff, _, _, ws, fr, by
                        rw [OE3.out, OE1.out, OE2.out]
                        exact k10, by simp [PR.out], p10, HT.out, KIF.out, by rw [ofl]; omega, fun i => by
                        have := MB.out i
                        omega⟩)
                      clear k10 kr10 p10 ofl K9
                      go_wp2_with fail
                      go_roundw
                      case rel => exact ⟨j + 1, T, g, fi, Z.take k ++ z.off :: Z.drop (k + 1), some ⟨be, o, none⟩, some ⟨bw, ow, none⟩, some ⟨bF, oF, none⟩, cs, cw, cf, by omega, by go_num, by rw [OFL.out], by rw [OFL.out], by rw [OFL.out], HTV.out, KF.out⟩
                      case measure =>
                        show N - ((j : Int) + 1).toNat < N - ((j : Int)).toNat
                        omega
                  · have u2 : (z.e.li != x.li) = true := by simpa using hli
                    have HNM := Lib.hid (show z.mt x.co x.li = false by unfold Snt.mt; simp [hli])
                    clear hco hli
                    as_aux_lemma =>
                    go_wp2_with fail
                    go_quiet (fail)
                    have k6 := K3.out.chg ((Chg.refl [] wr).drewN nq)
                    have n6 : (wr.drewN nq).heap[p]? = some (.cells (evc x) 38 (0, 0)) := n5
                    have p6 : (wr.drewN nq).heap[pc]? = some (.cells #[.int .i64 m, .int .i64 n, .int .i64 v, .int .i64 c3, .int .i64 c4, .int .i64 c5, .int .i64 c6] 23 (0, 0)) := p5
                    clear K3 n5 p5 hb1 hbw hbb
                    have K6 := Lib.hid k6
                    clear k6
                    generalize wr.drewN nq = w6 at K6 n6 p6 ⊢
                    go_wp2_with fail
                    go_roundw
                    case rel => exact ⟨k + 1, by omega, by go_num, K6.out, n6, p6, by
                      intro y hy
                      rw [List.take_add_one, HZ.out] at hy
                      rcases List.mem_append.1 hy with hy | hy
                      · exact HNO.out y hy
                      · simp at hy; subst hy; exact HNM.out⟩
                    case measure => simp [intOf]; omega
                · have u1 : (z.e.co != x.co) = true := by simpa using hco
                  have HNM := Lib.hid (show z.mt x.co x.li = false by unfold Snt.mt; simp [hco])
                  clear hco
                  as_aux_lemma =>
                  go_wp2_with fail
                  go_quiet (fail)
                  have k6 := K3.out.chg ((Chg.refl [] wr).drewN nq)
                  have n6 : (wr.drewN nq).heap[p]? = some (.cells (evc x) 38 (0, 0)) := n5
                  have p6 : (wr.drewN nq).heap[pc]? = some (.cells #[.int .i64 m, .int .i64 n, .int .i64 v, .int .i64 c3, .int .i64 c4, .int .i64 c5, .int .i64 c6] 23 (0, 0)) := p5
                  clear K3 n5 p5 hb1 hbw hbb
                  have K6 := Lib.hid k6
                  clear k6
                  generalize wr.drewN nq = w6 at K6 n6 p6 ⊢
                  go_wp2_with fail
                  go_roundw
                  case rel => exact ⟨k + 1, by omega, by go_num, K6.out, n6, p6, by
                    intro y hy
                    rw [List.take_add_one, HZ.out] at hy
                    rcases List.mem_append.1 hy with hy | hy
                    · exact HNO.out y hy
                    · simp at hy; subst hy; exact HNM.out⟩
                  case measure => simp [intOf]; omega
              · exfalso
                obtain ⟨z, hz, hm⟩ := HEX.out
                have := HNO.out z (by rw [List.take_of_length_le (by omega)]; exact hz)
                rw [this] at hm; cases hm
          by_cases h11 : x.kd = 11
          · as_aux_lemma =>
            have t3 : (x.kd == 3) = false := by simpa using h3
            have t13 : (x.kd == 13) = false := by simpa using h13
            have t6 : (x.kd == 6) = false := by simpa using h6
            have t11 : (x.kd == 11) = true := by simpa using h11
            obtain ⟨ki, kls, kks⟩ := KI0.out.step_fail OK.out HD.out h11
            have KI1 := Lib.hid ki
            have sv0 : S.vol = v := (do_vol HD.out).symm.trans HTV.out
            have ksl : S.ks.length = n * 8 := OK.out.ks
            have fil : fi.length = n * 8 := KI0.out.fl
            have KV0 := Lib.hid KI0.out.v0
            have KLE := Lib.hid (fun k (hk : k < n) (hv : S.vol ≤ k) w => KI0.out.left hk hv w)
            have SV0 := Lib.hid sv0
            have KSL := Lib.hid ksl
            have FIL := Lib.hid fil
            have KLS := Lib.hid kls
            clear ki kks h3 h13 h6 h11 sv0 ksl fil kls
            go_upto_region 40 with (go_at_call 12; refine (by { obtain ⟨F, g1, _⟩ := K3.out.bx; exact blines_ok g1 HT.out } : Calls Try.prog 12 _ _ (LinesOf _ n T.ls)).mono ?_; rintro e w7 ⟨gb, gc, gr, rfl, gh, gg, gl, gd⟩; have K7 := Lib.hid (K3.out.more gd (ey := [gb]) (fun z hz => by simp only [List.mem_singleton] at hz; subst hz; exact ⟨gg, lt_heap gh⟩)); have n7 := gd.keep n5 (by simp); have p7 := gd.keep p5 (by simp); have h7 := gd.keep kh5 (by simp); rw [KLS.out] at gh; clear gd gg n5 p5 kh5 K3)
            go_wp2_with fail
            go_loopw [20] (fun i wr => ∃ (k : Nat) (svs' : List Sv), k ≤ n ∧ i = .int .i64 k ∧ KM W wr n m q T (fiK fi S.ks k) (siK (sinceOf g) k) (mnOf n g) (Z.map (·.e)) (Z.map (·.ws)) (Z.map (·.fs)) bf bs bm As Aw Af cs cw cf Fs Fw Ff (R ++ [p] ++ [kb] ++ [gb]) svs' ws fr ∧ wr.heap[p]? = some (.cells (evc x) 38 (0, 0)) ∧ wr.heap[pc]? = some (.cells #[.int .i64 m, .int .i64 n, .int .i64 v, .int .i64 c3, .int .i64 c4, .int .i64 c5, .int .i64 c6] 23 (0, 0)) ∧ wr.heap[kb]? = some (.cells (bk S.ks kr) 42 (0, 0)) ∧ wr.heap[gb]? = some (.cells (bk S.ks gr) 42 (0, 0))) (fun i _ => n - (intOf i).toNat)
            case atStart => exact ⟨0, svs, by omega, rfl, by rw [fiK_zero, siK_zero]; exact K7.out, n7, p7, h7, gh⟩
            case round =>
              clear K7 n7 p7 h7 gh
              obtain ⟨k, svs', hk, rfl, k8, n8, p8, h8, g8⟩ := hrel
              have K8 := Lib.hid k8
              clear k8
              by_cases hlt2 : k < n
              · have c1 : (k : Int) < (n : Int) := by omega
                have c0 : (0 : Int) ≤ (k : Int) := by omega
                go_wp2_with fail
                go_loopw [21] (fun i wr => ∃ u : Nat, u ≤ 8 ∧ i = .int .i64 u ∧ KM W wr n m q T (fiK fi S.ks k) (siK (sinceOf g) k) (mnOf n g) (Z.map (·.e)) (Z.map (·.ws)) (Z.map (·.fs)) bf bs bm As Aw Af cs cw cf Fs Fw Ff (R ++ [p] ++ [kb] ++ [gb]) svs' ws fr ∧ wr.heap[p]? = some (.cells (evc x) 38 (0, 0)) ∧ wr.heap[pc]? = some (.cells #[.int .i64 m, .int .i64 n, .int .i64 v, .int .i64 c3, .int .i64 c4, .int .i64 c5, .int .i64 c6] 23 (0, 0)) ∧ wr.heap[kb]? = some (.cells (bk S.ks kr) 42 (0, 0)) ∧ wr.heap[gb]? = some (.cells (bk S.ks gr) 42 (0, 0))) (fun i _ => 8 - (intOf i).toNat)
                case atStart => exact ⟨0, by omega, rfl, K8.out, n8, p8, h8, g8⟩
                case round =>
                  clear K8 n8 p8 h8 g8
                  obtain ⟨u, hu, rfl, k9, n9, p9, h9, g9⟩ := hrel
                  have K9 := Lib.hid k9
                  clear k9
                  by_cases hu8 : u < 8
                  · have d1 : (u : Int) < 8 := by omega
                    have d0 : (0 : Int) ≤ (u : Int) := by omega
                    obtain ⟨a, ha⟩ := ln_some KSL.out hlt2 hu8
                    have ga := bk_cell hu8 ha gr
                    have HA2 := Lib.hid ha
                    clear ha
                    by_cases hkv : k < v
                    · have d2 : (k : Int) < (v : Int) := by omega
                      have a0 : a = 0 := by
                        have h0 := HA2.out
                        rw [KV0.out k hlt2 (by rw [SV0.out]; exact hkv), List.getElem?_replicate, if_pos hu8] at h0
                        exact (Option.some.inj h0).symm
                      subst a0
                      as_aux_lemma =>
                      go_wp2_with fail
                      go_roundw
                      case rel => exact ⟨u + 1, by omega, by go_num, K9.out, n9, p9, h9, g9⟩
                      case measure => simp [intOf]; omega
                    · have d2 : ¬ (k : Int) < (v : Int) := by omega
                      obtain ⟨b, hb⟩ := ln_some FIL.out hlt2 hu8
                      have gb' : (bk (fiK fi S.ks k) [])[k * 8 + u]? = some (.int .u64 b) := bk_cell hu8 (by rw [fiK_ln KSL.out hlt2]; exact hb) []
                      have hf9 := K9.out.hf
                      obtain ⟨ys, hys⟩ : ∃ ys, ys = sinceOf g k := ⟨_, rfl⟩
                      have HYS := Lib.hid hys
                      have OKA := Lib.hid (show okJ (a == b) ys (u : Int) a ys.length = true from okJ_all (by
                        rcases KLE.out k hlt2 (by rw [SV0.out]; omega) u with h0 | ⟨e, he, h1, h2⟩
                        · rw [HA2.out, hb] at h0
                          exact .inl (by simpa using h0)
                        · rw [HA2.out] at h2
                          exact .inr ⟨e, by rw [hys]; exact he, h1, (Option.some.inj h2).symm⟩))
                      have yl : ys.length ≤ 400 := by have := MB.out k; have : ys.length ≤ (g k).H.length := by { rw [hys]; unfold sinceOf; rw [List.length_drop]; omega }; omega
                      clear hb hys
                      as_aux_lemma =>
                      go_wp2_with fail
                      go_quiet (fail)
                      have k10 := K9.out.chg ((Chg.refl [] wr).drewN nq)
                      have n10 : (wr.drewN nq).heap[p]? = _ := n9
                      have p10 : (wr.drewN nq).heap[pc]? = _ := p9
                      have h10 : (wr.drewN nq).heap[kb]? = _ := h9
                      have g10 : (wr.drewN nq).heap[gb]? = _ := g9
                      have K10 := Lib.hid k10
                      clear k10 K9 n9 p9 h9 g9 hf9 gb'
                      generalize wr.drewN nq = w10 at K10 n10 p10 h10 g10 ⊢
                      go_wp2_with fail
                      go_loopw [22, 23] (fun o i wr => ∃ jj : Nat, jj ≤ ys.length ∧ o = .bool (okJ (a == b) ys (u : Int) a jj) ∧ i = .int .i64 jj ∧ KM W wr n m q T (fiK fi S.ks k) (siK (sinceOf g) k) (mnOf n g) (Z.map (·.e)) (Z.map (·.ws)) (Z.map (·.fs)) bf bs bm As Aw Af cs cw cf Fs Fw Ff (R ++ [p] ++ [kb] ++ [gb]) svs' ws fr ∧ wr.heap[p]? = some (.cells (evc x) 38 (0, 0)) ∧ wr.heap[pc]? = some (.cells #[.int .i64 m, .int .i64 n, .int .i64 v, .int .i64 c3, .int .i64 c4, .int .i64 c5, .int .i64 c6] 23 (0, 0)) ∧ wr.heap[kb]? = some (.cells (bk S.ks kr) 42 (0, 0)) ∧ wr.heap[gb]? = some (.cells (bk S.ks gr) 42 (0, 0))) (fun _ i _ => ys.length - (intOf i).toNat)
                      case atStart => exact ⟨0, by omega, by rw [okJ_zero], rfl, K10.out, n10, p10, h10, g10⟩
                      case round =>
                        clear K10 n10 p10 h10 g10
                        obtain ⟨jj, hj2, rfl, rfl, k11, n11, p11, h11, g11⟩ := hrel
                        obtain ⟨A1, cp, hrow, hcells⟩ := k11.sinceRow hlt2
                        rw [siK_at, ← HYS.out] at hrow hcells
                        have hs11 := k11.hs
                        have K11 := Lib.hid k11
                        clear k11
                        by_cases hjl : jj < ys.length
                        · obtain ⟨e, he⟩ : ∃ e, ys[jj]? = some e := ⟨_, List.getElem?_eq_getElem hjl⟩
                          obtain ⟨b2, o2, C2, t2, f2, hA1, hb2, hc3, hc4⟩ := hcells jj e he
                          subst hA1
                          have e1 : (jj : Int) < (ys.length : Int) := by omega
                          have OKS := Lib.hid (okJ_succ (a == b) (u : Int) a he)
                          clear hcells he
                          cases hok : okJ (a == b) ys (u : Int) a jj with
                          | true =>
                            rw [hok] at OKS
                            as_aux_lemma =>
                            go_wp2_with fail
                            go_quiet (fail)
                            have k12 := K11.out.chg ((Chg.refl [] wr).drewN nq)
                            have n12 : (wr.drewN nq).heap[p]? = _ := n11
                            have p12 : (wr.drewN nq).heap[pc]? = _ := p11
                            have h12 : (wr.drewN nq).heap[kb]? = _ := h11
                            have g12 : (wr.drewN nq).heap[gb]? = _ := g11
                            have K12 := Lib.hid k12
                            clear k12 K11 n11 p11 h11 g11 hs11 hb2 hc3 hc4 hrow
                            generalize wr.drewN nq = w12 at K12 n12 p12 h12 g12 ⊢
                            as_aux_lemma =>
                            go_wp2_with fail
                            go_roundw
                            case rel => exact ⟨jj + 1, by omega, by rw [OKS.out]; simp [], by go_num, K12.out, n12, p12, h12, g12⟩
                            case measure => simp [intOf]; omega
                          | false =>
                            rw [hok] at OKS
                            by_cases hwo : e.wo = (u : Int)
                            · have z1 : (e.wo == (u : Int)) = true := by simpa using hwo
                              by_cases hva : e.va = a
                              · have z2 : (e.va == a) = true := by simpa using hva
                                clear hwo hva
                                as_aux_lemma =>
                                go_wp2_with fail
                                go_quiet (fail)
                                have k12 := K11.out.chg ((Chg.refl [] wr).drewN nq)
                                have n12 : (wr.drewN nq).heap[p]? = _ := n11
                                have p12 : (wr.drewN nq).heap[pc]? = _ := p11
                                have h12 : (wr.drewN nq).heap[kb]? = _ := h11
                                have g12 : (wr.drewN nq).heap[gb]? = _ := g11
                                have K12 := Lib.hid k12
                                clear k12 K11 n11 p11 h11 g11 hs11 hb2 hc3 hc4 hrow
                                generalize wr.drewN nq = w12 at K12 n12 p12 h12 g12 ⊢
                                as_aux_lemma =>
                                go_wp2_with fail
                                go_roundw
                                case rel => exact ⟨jj + 1, by omega, by rw [OKS.out]; simp [z1, z2], by go_num, K12.out, n12, p12, h12, g12⟩
                                case measure => simp [intOf]; omega
                              · have z2 : (e.va == a) = false := by simpa using hva
                                clear hwo hva
                                as_aux_lemma =>
                                go_wp2_with fail
                                go_quiet (fail)
                                have k12 := K11.out.chg ((Chg.refl [] wr).drewN nq)
                                have n12 : (wr.drewN nq).heap[p]? = _ := n11
                                have p12 : (wr.drewN nq).heap[pc]? = _ := p11
                                have h12 : (wr.drewN nq).heap[kb]? = _ := h11
                                have g12 : (wr.drewN nq).heap[gb]? = _ := g11
                                have K12 := Lib.hid k12
                                clear k12 K11 n11 p11 h11 g11 hs11 hb2 hc3 hc4 hrow
                                generalize wr.drewN nq = w12 at K12 n12 p12 h12 g12 ⊢
                                as_aux_lemma =>
                                go_wp2_with fail
                                go_roundw
                                case rel => exact ⟨jj + 1, by omega, by rw [OKS.out]; simp [z1, z2], by go_num, K12.out, n12, p12, h12, g12⟩
                                case measure => simp [intOf]; omega
                            · have z1 : (e.wo == (u : Int)) = false := by simpa using hwo
                              clear hwo
                              as_aux_lemma =>
                              go_wp2_with fail
                              go_quiet (fail)
                              have k12 := K11.out.chg ((Chg.refl [] wr).drewN nq)
                              have n12 : (wr.drewN nq).heap[p]? = _ := n11
                              have p12 : (wr.drewN nq).heap[pc]? = _ := p11
                              have h12 : (wr.drewN nq).heap[kb]? = _ := h11
                              have g12 : (wr.drewN nq).heap[gb]? = _ := g11
                              have K12 := Lib.hid k12
                              clear k12 K11 n11 p11 h11 g11 hs11 hb2 hc3 hc4 hrow
                              generalize wr.drewN nq = w12 at K12 n12 p12 h12 g12 ⊢
                              as_aux_lemma =>
                              go_wp2_with fail
                              go_roundw
                              case rel => exact ⟨jj + 1, by omega, by rw [OKS.out]; simp [z1], by go_num, K12.out, n12, p12, h12, g12⟩
                              case measure => simp [intOf]; omega
                        · obtain rfl : jj = ys.length := by omega
                          rw [OKA.out]
                          have h8l : (ln S.ks k).length = 8 := ln_length _ _ (show k * 8 + 8 ≤ S.ks.length by have := KSL.out; omega)
                          have hfz : Fit (k * 8) 8 S.ks.length := show k * 8 + 8 ≤ S.ks.length by have := KSL.out; omega
                          have rp1 := rowPart_bk hfz gr 42 (0, 0)
                          have rp2 := rowPart_bk hfz kr 42 (0, 0)
                          have hF1 : Fit (k * 8) 8 (bk S.ks gr).size := by rw [bk_size]; exact fit_more hfz _
                          have hF2 : Fit (k * 8) 8 (bk S.ks kr).size := by rw [bk_size]; exact fit_more hfz _
                          have heq := fun W => line_eq (ln S.ks k) (ln S.ks k) h8l h8l W
                          have hbe : (ln S.ks k == ln S.ks k) = true := by simp
                          clear hcells
                          as_aux_lemma =>
                          go_wp2_with fail
                          go_quiet (fail)
                          have k12 := K11.out.chg ((Chg.refl [] wr).drewN nq)
                          have n12 : (wr.drewN nq).heap[p]? = _ := n11
                          have p12 : (wr.drewN nq).heap[pc]? = _ := p11
                          have h12 : (wr.drewN nq).heap[kb]? = _ := h11
                          have g12 : (wr.drewN nq).heap[gb]? = _ := g11
                          have K12 := Lib.hid k12
                          clear k12 K11 n11 p11 h11 g11 hs11 hrow rp1 rp2 hF1 hF2 heq
                          generalize wr.drewN nq = w12 at K12 n12 p12 h12 g12 ⊢
                          as_aux_lemma =>
                          go_wp2_with fail
                          go_roundw
                          case rel => exact ⟨u + 1, by omega, by go_num, K12.out, n12, p12, h12, g12⟩
                          case measure => simp [intOf]; omega
                  · obtain rfl : u = 8 := by omega
                    have h8l : (ln S.ks k).length = 8 := ln_length _ _ (show k * 8 + 8 ≤ S.ks.length by have := KSL.out; omega)
                    have hfz : Fit (k * 8) 8 S.ks.length := show k * 8 + 8 ≤ S.ks.length by have := KSL.out; omega
                    have hfit : Fit (k * 8) 8 (fiK fi S.ks k).length := show k * 8 + 8 ≤ (fiK fi S.ks k).length by rw [fiK_len KSL.out FIL.out hk]; omega
                    have rp := rowPart_bk hfz gr 42 (0, 0)
                    have ri := rowIn_bk hfz gr 42 (0, 0)
                    have rh := rowHas_bk hfit [] 42
                    have hF1 : Fit (k * 8) 8 (bk S.ks gr).size := by rw [bk_size]; exact fit_more hfz _
                    have hF2 : Fit (k * 8) 8 (bk (fiK fi S.ks k) []).size := by rw [bk_size]; exact fit_more hfit _
                    have nbs : bs ≠ bf := K9.out.ne.1.symm
                    have hf9 := K9.out.hf
                    have hs9 := K9.out.hs
                    have hss : (svc svs').size = n := by rw [svc_size]; exact K9.out.sl
                    obtain ⟨v0, hv0⟩ : ∃ v0, (svc svs')[k]? = some v0 := ⟨_, Array.getElem?_eq_getElem (by rw [hss]; exact hlt2)⟩
                    obtain ⟨kF, kr9⟩ := K9.out.failed (l := k) h8l hfit
                    have KF := Lib.hid kF
                    have nF := (kr9 p (by simp)).trans n9
                    have pF := (kr9 pc (by simp [PR.out])).trans p9
                    have hF := (kr9 kb (by simp)).trans h9
                    have gF := (kr9 gb (by simp)).trans g9
                    have NF := Lib.hid nF
                    have PF := Lib.hid pF
                    have HF := Lib.hid hF
                    have GF := Lib.hid gF
                    clear kF kr9 nF pF hF gF K9
                    as_aux_lemma =>
                    go_wp2_with fail
                    go_roundw
                    case rel => exact ⟨k + 1, svs'.set k svZ, by omega, by go_num, by rw [← fiK_put KSL.out FIL.out hlt2, ← siK_put]; exact KF.out, NF.out, PF.out, HF.out, GF.out⟩
                    case measure => simp [intOf]; omega
              · obtain rfl : k = n := by omega
                have kF := K8.out
                rw [fiK_all KSL.out FIL.out] at kF
                have kG := kF.gone.sameSi (si' := sinceOf (gFa g S.ks)) (fun i hi => siK_gone g S.ks hi)
                have KF := Lib.hid (show KS W wr k m q pc bf bs bm #[.int .i64 m, .int .i64 k, .int .i64 v, .int .i64 c3, .int .i64 c4, .int .i64 c5, .int .i64 c6] (j + 1) T (gFa g S.ks) S.ks [] none none none 0 0 0 from ⟨[], [], [], _, svs', [], [], by rw [mnOf_fail]; exact kG, by simp [PR.out], p8, HT.out, KI1.out, by simp, fun i => by
                  have := MB.out i
                  exact ⟨by show 0 ≤ (g i).M + ((g i).H.length : Int); omega, by show (g i).M + ((g i).H.length : Int) + ((0 : Nat) : Int) ≤ _; omega⟩⟩)
                clear kF kG K8
                as_aux_lemma =>
                go_wp2_with fail
                go_roundw
                case rel => exact ⟨j + 1, T, gFa g S.ks, S.ks, [], none, none, none, 0, 0, 0, by omega, by go_num, rfl, rfl, rfl, HTV.out, KF.out⟩
                case measure =>
                  show N - ((j : Int) + 1).toNat < N - ((j : Int)).toNat
                  omega
          as_aux_lemma =>
          have t3 : (x.kd == 3) = false := by simpa using h3
          have t13 : (x.kd == 13) = false := by simpa using h13
          have t6 : (x.kd == 6) = false := by simpa using h6
          have t11 : (x.kd == 11) = false := by simpa using h11
          obtain ⟨g', ki, hg⟩ := KI0.out.step_rest OK.out HD.out h3 h6 h11 h13
          have e1 : sinceOf g' = sinceOf g := funext fun k => by unfold sinceOf; rw [(hg k).1, (hg k).2.1]
          have e2 : mnOf n g' = mnOf n g := mnOf_same hg
          have HG := Lib.hid (show KS W w5 n m q pc bf bs bm #[.int .i64 m, .int .i64 n, .int .i64 v, .int .i64 c3, .int .i64 c4, .int .i64 c5, .int .i64 c6] (j + 1) T g' fi Z As Aw Af cs cw cf from ⟨Fs, Fw, Ff, _, svs, ws, fr, by rw [e1, e2]; exact K3.out, by simp [PR.out], p5, HT.out, ki, by have := ZL.out; omega, fun k => by have := MB.out k; rw [(hg k).1, (hg k).2.2]; omega⟩)
          clear h3 h13 h6 h11 ki hg e1 e2
          go_wp2_with fail
          go_roundw
          case rel => exact ⟨j + 1, T, g', fi, Z, As, Aw, Af, cs, cw, cf, by omega, by go_num, rfl, rfl, rfl, HTV.out, HG.out⟩
          case measure =>
            show N - ((j : Int) + 1).toNat < N - ((j : Int)).toNat
            omega
      · obtain rfl : j = N := by omega
        go_wp2_with (go_at_call 8; refine (wakes_any _).mono ?_; rintro r w6 ⟨rfl, c6⟩; have C6 := Lib.hid c6; clear c6)
        go_ret
        exact ⟨rfl, K0.out.bx.all.trans C6.out⟩
end Go.Proofs.Ytgpmhbkpagfjaaa
