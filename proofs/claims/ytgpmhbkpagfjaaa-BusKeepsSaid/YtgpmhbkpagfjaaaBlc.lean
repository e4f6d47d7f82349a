/- BusFences: walked. No condition. -/
import Derived.Test.YtgpmhbkpagfjaaaBwx
import Derived.Test.YtgpmhbkpagfjaaaBlf
namespace Go.Proofs.Ytgpmhbkpagfjaaa
open Go.RowKit
set_option linter.unusedVariables false
set_option maxHeartbeats 1000000

set_option maxRecDepth 100000
attribute [local go_sem ↓] append_appS copy_copS clear_clrS make_mkS slice_slS lookup_lookS mput_mputS del_mdelS cell_row frozen_row heap_drew heap_drewN heap_alloc heap_past heap_setCell heap_putRow heap_setB loadEv storeEv loadBe storeBe loadSp storeSp loadNw storeNw loadLine storeLine evc_kd evc_co evc_li evc_wo evc_va bec_fl bec_li bec_wo bec_va nwC_0 nwC_1 spC_0 spC_1
attribute [local go_sem] rowCell_some rowFrozen_some rowHas_some rowIn_some rowPart_full rowPart_lit rowPut_full rowPut_lit rowSet_some size_putRow size_setB run_loadS run_storeS run_appS run_copS run_clrS run_mkS run_slS run_lookS run_mputS run_mdelS loadW_at storeW_at fit_all fit_le one_int one_bool one_pointer one_slice allOne_list putRow_new ne_size1 ne_size2 ne_size3 ne_size4 wideEv wideBe wideSp wideNw wideLine evc_size evc_one evc_ne evc_lit evc_z fold_evc bec_size bec_one bec_lit bec_ne bec_at bec_in spC_size spC_one nwC_size nwC_one nwC_ne nwC_set0 nwC_set1 nwC_lit bec_set0 bec_set1 bec_set2 bec_set3 spC_set0 spC_set1 spC_lit fold_spC spC_ne fold_nwC fold_bec fold_at vs_size vs_one ic_size ic_get
attribute [local simp ↓] heap_drew heap_drewN heap_alloc heap_past heap_setCell heap_putRow heap_setB
attribute [local simp] rowCell_some rowFrozen_some rowHas_some rowIn_some rowPart_full rowPart_lit rowPut_full rowPut_lit rowSet_some size_putRow size_setB fit_all putRow_new ne_size1 ne_size2 ne_size3 ne_size4 evc_size bec_size spC_size nwC_size vs_size fit_le
def kEv14 : List Kd := [.int .i64, .int .i64, .int .i64, .int .i64, .int .u64]
theorem ev_cells14 {w : World} {cs : List Value} (h : AreKd w kEv14 cs) : ∃ x : Ev, cs = Ev.enc x := by
  obtain ⟨v1, c1, rfl, h1, hB⟩ := AreKd.head h
  obtain ⟨v2, c2, rfl, h2, hC⟩ := AreKd.head hB
  obtain ⟨v3, c3, rfl, h3, hD⟩ := AreKd.head hC
  obtain ⟨v4, c4, rfl, h4, hE⟩ := AreKd.head hD
  obtain ⟨v5, c5, rfl, h5, hF⟩ := AreKd.head hE
  obtain rfl : c5 = [] := List.eq_nil_of_length_eq_zero (by simpa using hF.1)
  simp only [IsKd] at h1 h2 h3 h4 h5
  obtain ⟨a, rfl, _⟩ := h1
  obtain ⟨b, rfl, _⟩ := h2
  obtain ⟨c, rfl, _⟩ := h3
  obtain ⟨d, rfl, _⟩ := h4
  obtain ⟨e, rfl, _⟩ := h5
  exact ⟨⟨a, b, c, d, e⟩, rfl⟩
theorem ev_row14 {w wr : World} {A : Option Addr} {n : Nat} {xs : List Value} (hA : Sl w 5 A n xs) {i : Nat} (hi : i < n) (hk : AreKd w kEv14 ((xs.drop (i * 5)).take 5)) (hc : Chg [] w wr) :
    ∃ (x : Ev) (b o : Nat) (c : Array Value) (t : TypeId) (f : Nat × Nat), A = some ⟨b, o, none⟩ ∧ wr.heap[b]? = some (.cells c t f) ∧ rowIn (some (.cells c t f)) (o + i * 5) 5 = true ∧ rowPart (some (.cells c t f)) (o + i * 5) 5 = evc x := by
  obtain ⟨x, hy⟩ := ev_cells14 hk
  obtain ⟨b, o, rfl⟩ := hA.addr (by omega)
  obtain ⟨cs, t, f, hb, _, hp⟩ := (hA.chg hc (by simp)).elem (by omega) hi hy
  have h0 := hp 0 5 (by omega)
  rw [Nat.add_zero] at h0
  refine ⟨x, b, o, cs, t, f, rfl, hb, h0.1, ?_⟩
  rw [h0.2]
  simp [evc, Ev.enc]
attribute [local go_sem ↓] loadCf storeCf evc_set0 evc_set1 evc_set2 evc_set3 evc_set4
attribute [local go_sem] wideCf
set_option maxHeartbeats 8000000 in
theorem bfences_any (A : Option Addr) (N cN : Nat) (xs : List Value) (core : Int) (hc0 : 0 ≤ core) (hc1 : core < 256) (W : World) (hA : Sl W 5 A N xs) (hN : N ≤ maxLen) (hk : ∀ i, i < N → AreKd W kEv14 ((xs.drop (i * 5)).take 5)) :
    Calls Try.prog 5 #[.slice A N cN, .int .u8 core] W fun e w' => e = .returned (.bool true) ∧ Chg [] W w' := by
  unfold maxLen at hN
  have HA := Lib.hid hA
  have HK := Lib.hid hk
  clear hA hk
  go_enter Try.func5, Try.ntmps5
  try dsimp only [List.append]
  go_upto_region 3 with (first | (go_at_call 14; refine (plain_any _).mono ?_; rintro e w1 ⟨rfl, c1⟩; have C1 := Lib.hid c1; clear c1) | (go_at_call 9; refine (new_w 2 6 1 1 2 2 2 rfl _).mono ?_; rintro e w2 ⟨q, rfl, h0⟩; have H0 := Lib.hid h0; clear h0))
  have H1 := Lib.hid (H0.out.weak (C1.out.trans ((Chg.refl [] w1).alloc _)))
  clear H0 C1
  by_cases h300 : 300 < N
  · have t0 : (300 : Int) < (N : Int) := by omega
    go_wp2_with (go_at_call 8; refine (wakes_any _).mono ?_; rintro r w6 ⟨rfl, c6⟩; have C6 := Lib.hid c6; clear c6)
    go_ret
    exact ⟨rfl, H1.out.all.trans C6.out⟩
  have hN3 : N ≤ 300 := by omega
  have t0 : ¬ (300 : Int) < (N : Int) := by omega
  obtain ⟨k, hk2, hkm⟩ : ∃ k : Nat, k < 2 ∧ core % 2 = (k : Int) := ⟨(core % 2).toNat, by omega, by omega⟩
  have hkt : Int.tmod core 2 = (k : Int) := by rw [Int.tmod_eq_emod_of_nonneg hc0, hkm]
  have hs0 : FenI (bs0 6 2 1) k 0 false := by
    have : (bs0 6 2 1).core k = bcZ := by
      unfold Bs.core bs0
      rw [List.getD_eq_getElem?_getD]
      simp only [List.getElem?_replicate]
      split <;> rfl
    exact ⟨by rw [this]; intro p hp; simp [bcZ] at hp, by rw [this]; rfl, by rw [this]; rfl⟩
  have HS0 := Lib.hid hs0
  have HK2 := Lib.hid hk2
  clear hs0 h300
  go_upto_region 6 with fail
  clear hkm hc0 hc1 HK2 t0
  go_wp2_with fail
  go_loopw [9, 10, 11] (fun o s i wr => ∃ (j : Nat) (S : Bs) (ov : Int) (sv : Bool), j ≤ N ∧ i = .int .i64 j ∧ o = .int .i64 ov ∧ s = .bool sv ∧ BusW 6 2 W wr q S ∧ S.Ok 6 2 j ∧ FenI S k ov sv ∧ -(j : Int) ≤ ov ∧ ov ≤ j) (fun _ _ i _ => N - (intOf i).toNat)
  case atStart => exact ⟨0, _, 0, false, by omega, rfl, rfl, rfl, H1.out, bs0_ok (by omega) (by omega) (by omega) (by omega), HS0.out, by omega, by omega⟩
  case round =>
    clear H1 HS0 hkt
    obtain ⟨j, S, ov, sv, hj, rfl, rfl, rfl, h1, h2, h3, h4, h5⟩ := hrel
    have H1 := Lib.hid h1
    have H2 := Lib.hid h2
    have H3 := Lib.hid h3
    clear h1 h2 h3
    by_cases hlt : j < N
    · have g1 : (j : Int) < (N : Int) := by omega
      have g0 : (0 : Int) ≤ (j : Int) := by omega
      have g3 : (N : Int) ≤ 300 := by omega
      obtain ⟨x, b1, o1, cA, tA, fA, rfl, rA, rAi, rAp⟩ := ev_row14 HA.out hlt (HK.out j hlt) H1.out.all
      have H1a := Lib.hid ((H1.out.x).add (ey := [wr.heap.size]) ((Chg.refl [] wr).alloc (.cells (evc x) 38)) (by simp) (fun z hz => .inr (by simp only [List.mem_singleton] at hz; subst hz; simp)))
      go_upto_region 12 with fail
      have n1 : (wr.alloc (.cells (evc x) 38)).heap[wr.heap.size]? = some (.cells (evc x) 38 (0, 0)) := (MapKept.heap_alloc wr _).1
      clear rA rAi rAp H1
      generalize wr.alloc (.cells (evc x) 38) = w3 at *
      generalize wr.heap.size = p at *
      cases hd : doB S x with
      | none =>
        go_wp2_with (go_at_call 11; refine (do_x H1a.out H2.out (by omega) _).mono ?_; rintro e w4 ⟨rfl, h4', _⟩; rw [hd] at h4' ⊢; have h4 := h4'.toW; clear h4'; have H4 := Lib.hid h4; clear h4)
        go_roundw
        case rel => exact ⟨j + 1, S, ov, sv, by omega, by go_num, rfl, rfl, H4.out, H2.out.mono (Nat.le_succ j), H3.out, by omega, by omega⟩
        case measure =>
          show N - ((j : Int) + 1).toNat < N - ((j : Int)).toNat
          omega
      | some T =>
        have hT : T.Ok 6 2 (j + 1) := by have := do_ok H2.out x; rw [hd] at this; exact this
        have HT := Lib.hid hT
        have HF := Lib.hid (H3.out.step H2.out hd)
        clear hT H3
        by_cases e11 : x.kd = 11
        · by_cases ek : x.co = (k : Int)
          · have t11 : (x.kd == 11) = true := by simpa using e11
            have tk : (x.co != (k : Int)) = false := by simpa using ek
            have t5 : (x.kd == 5) = false := by rw [e11]; rfl
            have t13 : (x.kd == 13) = false := by rw [e11]; rfl
            have t6 : (x.kd == 6) = false := by rw [e11]; rfl
            have t9 : (x.kd == 9) = false := by rw [e11]; rfl
            have t10 : (x.kd == 10) = false := by rw [e11]; rfl
            have fo : fenO k x ov = 0 := by simp [fenO, e11]
            have fs : fenS k x sv = false := by simp [fenS, e11]
            have HFO := Lib.hid fo
            have HFS := Lib.hid fs
            clear fo fs e11 ek
            go_wp2_with (go_at_call 11; refine (do_x H1a.out H2.out (by omega) _).mono ?_; rintro e w4 ⟨rfl, h4', h5'⟩; rw [hd] at h4' ⊢; have n4 : w4.heap[p]? = some (.cells (evc x) 38 (0, 0)) := (h5' p (by simp)).trans n1; have h4 := h4'.toW; clear h5' h4'; have H4 := Lib.hid h4; clear h4)
            go_roundw
            case measure =>
              show N - ((j : Int) + 1).toNat < N - ((j : Int)).toNat
              omega
            case rel =>
              refine ⟨j + 1, T, 0, false, by omega, by go_num, rfl, rfl, H4.out, HT.out, ?_, by omega, by omega⟩
              have := HF.out
              rw [HFO.out, HFS.out] at this
              exact this
          · have t11 : (x.kd == 11) = true := by simpa using e11
            have tk : (x.co != (k : Int)) = true := by simpa using ek
            have fo : fenO k x ov = 0 := by simp [fenO, e11]
            have fs : fenS k x sv = false := by simp [fenS, e11]
            have HFO := Lib.hid fo
            have HFS := Lib.hid fs
            clear fo fs e11 ek
            go_wp2_with (go_at_call 11; refine (do_x H1a.out H2.out (by omega) _).mono ?_; rintro e w4 ⟨rfl, h4', h5'⟩; rw [hd] at h4' ⊢; have n4 : w4.heap[p]? = some (.cells (evc x) 38 (0, 0)) := (h5' p (by simp)).trans n1; have h4 := h4'.toW; clear h5' h4'; have H4 := Lib.hid h4; clear h4)
            go_roundw
            case measure =>
              show N - ((j : Int) + 1).toNat < N - ((j : Int)).toNat
              omega
            case rel =>
              refine ⟨j + 1, T, 0, false, by omega, by go_num, rfl, rfl, H4.out, HT.out, ?_, by omega, by omega⟩
              have := HF.out
              rw [HFO.out, HFS.out] at this
              exact this
        have t11 : (x.kd == 11) = false := by simpa using e11
        by_cases ek : x.co = (k : Int)
        rotate_left
        · have tk : (x.co != (k : Int)) = true := by simpa using ek
          have fo : fenO k x ov = ov := by simp [fenO, e11, ek]
          have fs : fenS k x sv = sv := by simp [fenS, e11, ek]
          have HFO := Lib.hid fo
          have HFS := Lib.hid fs
          clear fo fs e11 ek
          go_wp2_with (go_at_call 11; refine (do_x H1a.out H2.out (by omega) _).mono ?_; rintro e w4 ⟨rfl, h4', h5'⟩; rw [hd] at h4' ⊢; have n4 : w4.heap[p]? = some (.cells (evc x) 38 (0, 0)) := (h5' p (by simp)).trans n1; have h4 := h4'.toW; clear h5' h4'; have H4 := Lib.hid h4; clear h4)
          go_roundw
          case measure =>
            show N - ((j : Int) + 1).toNat < N - ((j : Int)).toNat
            omega
          case rel =>
            refine ⟨j + 1, T, ov, sv, by omega, by go_num, rfl, rfl, H4.out, HT.out, ?_, by omega, by omega⟩
            have := HF.out
            rw [HFO.out, HFS.out] at this
            exact this
        have tk : (x.co != (k : Int)) = false := by simpa using ek
        by_cases e5 : x.kd = 5
        · have t5 : (x.kd == 5) = true := by simpa using e5
          have fo : fenO k x ov = ov := by simp [fenO, ek, e5]
          have fs : fenS k x sv = sv := by simp [fenS, ek, e5]
          have HFO := Lib.hid fo
          have HFS := Lib.hid fs
          clear fo fs e11 ek e5
          go_wp2_with (go_at_call 11; refine (do_x H1a.out H2.out (by omega) _).mono ?_; rintro e w4 ⟨rfl, h4', h5'⟩; rw [hd] at h4' ⊢; have n4 : w4.heap[p]? = some (.cells (evc x) 38 (0, 0)) := (h5' p (by simp)).trans n1; have h4 := h4'.toW; clear h5' h4'; have H4 := Lib.hid h4; clear h4)
          go_roundw
          case measure =>
            show N - ((j : Int) + 1).toNat < N - ((j : Int)).toNat
            omega
          case rel =>
            refine ⟨j + 1, T, ov, sv, by omega, by go_num, rfl, rfl, H4.out, HT.out, ?_, by omega, by omega⟩
            have := HF.out
            rw [HFO.out, HFS.out] at this
            exact this
        have t5 : (x.kd == 5) = false := by simpa using e5
        by_cases e13 : x.kd = 13
        · have t13 : (x.kd == 13) = true := by simpa using e13
          have fo : fenO k x ov = (ov + 1) := by simp [fenO, ek, e13]
          have fs : fenS k x sv = sv := by simp [fenS, ek, e13]
          have HFO := Lib.hid fo
          have HFS := Lib.hid fs
          clear fo fs e11 ek e5 e13
          go_wp2_with (go_at_call 11; refine (do_x H1a.out H2.out (by omega) _).mono ?_; rintro e w4 ⟨rfl, h4', h5'⟩; rw [hd] at h4' ⊢; have n4 : w4.heap[p]? = some (.cells (evc x) 38 (0, 0)) := (h5' p (by simp)).trans n1; have h4 := h4'.toW; clear h5' h4'; have H4 := Lib.hid h4; clear h4)
          go_roundw
          case measure =>
            show N - ((j : Int) + 1).toNat < N - ((j : Int)).toNat
            omega
          case rel =>
            refine ⟨j + 1, T, (ov + 1), sv, by omega, by go_num, rfl, rfl, H4.out, HT.out, ?_, by omega, by omega⟩
            have := HF.out
            rw [HFO.out, HFS.out] at this
            exact this
        have t13 : (x.kd == 13) = false := by simpa using e13
        by_cases e6 : x.kd = 6
        · have t6 : (x.kd == 6) = true := by simpa using e6
          have fo : fenO k x ov = (ov - 1) := by simp [fenO, ek, e6]
          have fs : fenS k x sv = sv := by simp [fenS, ek, e6]
          have HFO := Lib.hid fo
          have HFS := Lib.hid fs
          clear fo fs e11 ek e5 e13 e6
          go_wp2_with (go_at_call 11; refine (do_x H1a.out H2.out (by omega) _).mono ?_; rintro e w4 ⟨rfl, h4', h5'⟩; rw [hd] at h4' ⊢; have n4 : w4.heap[p]? = some (.cells (evc x) 38 (0, 0)) := (h5' p (by simp)).trans n1; have h4 := h4'.toW; clear h5' h4'; have H4 := Lib.hid h4; clear h4)
          go_roundw
          case measure =>
            show N - ((j : Int) + 1).toNat < N - ((j : Int)).toNat
            omega
          case rel =>
            refine ⟨j + 1, T, (ov - 1), sv, by omega, by go_num, rfl, rfl, H4.out, HT.out, ?_, by omega, by omega⟩
            have := HF.out
            rw [HFO.out, HFS.out] at this
            exact this
        have t6 : (x.kd == 6) = false := by simpa using e6
        by_cases e9 : x.kd = 9
        · have t9 : (x.kd == 9) = true := by simpa using e9
          have fo : fenO k x ov = ov := by simp [fenO, ek, e9]
          have fs : fenS k x sv = true := by simp [fenS, ek, e9]
          have HFO := Lib.hid fo
          have HFS := Lib.hid fs
          clear fo fs e11 ek e5 e13 e6 e9
          go_wp2_with (go_at_call 11; refine (do_x H1a.out H2.out (by omega) _).mono ?_; rintro e w4 ⟨rfl, h4', h5'⟩; rw [hd] at h4' ⊢; have n4 : w4.heap[p]? = some (.cells (evc x) 38 (0, 0)) := (h5' p (by simp)).trans n1; have h4 := h4'.toW; clear h5' h4'; have H4 := Lib.hid h4; clear h4)
          go_roundw
          case measure =>
            show N - ((j : Int) + 1).toNat < N - ((j : Int)).toNat
            omega
          case rel =>
            refine ⟨j + 1, T, ov, true, by omega, by go_num, rfl, rfl, H4.out, HT.out, ?_, by omega, by omega⟩
            have := HF.out
            rw [HFO.out, HFS.out] at this
            exact this
        have t9 : (x.kd == 9) = false := by simpa using e9
        by_cases e10 : x.kd = 10
        · have t10 : (x.kd == 10) = true := by simpa using e10
          have fo : fenO k x ov = ov := by simp [fenO, ek, e10]
          have fs : fenS k x sv = true := by simp [fenS, ek, e10]
          have HFO := Lib.hid fo
          have HFS := Lib.hid fs
          clear fo fs e11 ek e5 e13 e6 e9 e10
          go_wp2_with (go_at_call 11; refine (do_x H1a.out H2.out (by omega) _).mono ?_; rintro e w4 ⟨rfl, h4', h5'⟩; rw [hd] at h4' ⊢; have n4 : w4.heap[p]? = some (.cells (evc x) 38 (0, 0)) := (h5' p (by simp)).trans n1; have h4 := h4'.toW; clear h5' h4'; have H4 := Lib.hid h4; clear h4)
          go_roundw
          case measure =>
            show N - ((j : Int) + 1).toNat < N - ((j : Int)).toNat
            omega
          case rel =>
            refine ⟨j + 1, T, ov, true, by omega, by go_num, rfl, rfl, H4.out, HT.out, ?_, by omega, by omega⟩
            have := HF.out
            rw [HFO.out, HFS.out] at this
            exact this
        have t10 : (x.kd == 10) = false := by simpa using e10
        have fo : fenO k x ov = ov := by simp [fenO, e11, ek, e13, e6]
        have fs : fenS k x sv = sv := by simp [fenS, e11, ek, e9, e10]
        have HFO := Lib.hid fo
        have HFS := Lib.hid fs
        clear fo fs e11 ek e5 e13 e6 e9 e10
        go_wp2_with (go_at_call 11; refine (do_x H1a.out H2.out (by omega) _).mono ?_; rintro e w4 ⟨rfl, h4', h5'⟩; rw [hd] at h4' ⊢; have n4 : w4.heap[p]? = some (.cells (evc x) 38 (0, 0)) := (h5' p (by simp)).trans n1; have h4 := h4'.toW; clear h5' h4'; have H4 := Lib.hid h4; clear h4)
        go_roundw
        case measure =>
          show N - ((j : Int) + 1).toNat < N - ((j : Int)).toNat
          omega
        case rel =>
          refine ⟨j + 1, T, ov, sv, by omega, by go_num, rfl, rfl, H4.out, HT.out, ?_, by omega, by omega⟩
          have := HF.out
          rw [HFO.out, HFS.out] at this
          exact this
    · obtain rfl : j = N := by omega
      have hfd := fence_do H2.out hk2 H3.out
      generalize hlen : (((S.core k).buf.length : Nat) : Int) = ln at hfd
      have HL := Lib.hid hlen
      clear hlen
      cases b1 : (ln == 0)
      · rw [b1] at hfd
        simp only [Bool.false_and] at hfd
        have HFD := Lib.hid hfd
        clear hfd
        go_wp2_with (first | (go_at_call 13; refine (by { obtain ⟨F, g1, _⟩ := H1.out; exact bpend_ok (i := k) g1 hk2 } : Calls Try.prog 13 _ _ (fun e w' => e = .returned (.int .i64 (S.core k).buf.length) ∧ Chg [] _ w')).mono ?_; rintro e y3 ⟨rfl, c⟩; rw [HL.out]; have H9 := Lib.hid (H1.out.chg c); clear c) | (go_at_call 11; refine (do_w H9.out H2.out (by omega) ⟨7, k, 0, 0, 0⟩).mono ?_; rintro e x9 ⟨rfl, h⟩; rw [HFD.out]; have H10 := Lib.hid h; clear h) | (go_at_call 8; refine (wakes_any _).mono ?_; rintro r w6 ⟨rfl, c6⟩; have C6 := Lib.hid c6; clear c6))
        go_ret
        exact ⟨rfl, H10.out.all.trans C6.out⟩
      cases b2 : (ov == 0)
      · rw [b1, b2] at hfd
        simp only [Bool.and_false, Bool.false_and] at hfd
        have HFD := Lib.hid hfd
        clear hfd
        go_wp2_with (first | (go_at_call 13; refine (by { obtain ⟨F, g1, _⟩ := H1.out; exact bpend_ok (i := k) g1 hk2 } : Calls Try.prog 13 _ _ (fun e w' => e = .returned (.int .i64 (S.core k).buf.length) ∧ Chg [] _ w')).mono ?_; rintro e y3 ⟨rfl, c⟩; rw [HL.out]; have H9 := Lib.hid (H1.out.chg c); clear c) | (go_at_call 11; refine (do_w H9.out H2.out (by omega) ⟨7, k, 0, 0, 0⟩).mono ?_; rintro e x9 ⟨rfl, h⟩; rw [HFD.out]; have H10 := Lib.hid h; clear h) | (go_at_call 8; refine (wakes_any _).mono ?_; rintro r w6 ⟨rfl, c6⟩; have C6 := Lib.hid c6; clear c6))
        go_ret
        exact ⟨rfl, H10.out.all.trans C6.out⟩
      cases b3 : sv
      · rw [b1, b2, b3] at hfd
        simp only [Bool.and_self, Bool.not_false] at hfd
        subst b3
        have HFD := Lib.hid hfd
        clear hfd
        go_wp2_with (first | (go_at_call 13; refine (by { obtain ⟨F, g1, _⟩ := H1.out; exact bpend_ok (i := k) g1 hk2 } : Calls Try.prog 13 _ _ (fun e w' => e = .returned (.int .i64 (S.core k).buf.length) ∧ Chg [] _ w')).mono ?_; rintro e y3 ⟨rfl, c⟩; rw [HL.out]; have H9 := Lib.hid (H1.out.chg c); clear c) | (go_at_call 11; refine (do_w H9.out H2.out (by omega) ⟨7, k, 0, 0, 0⟩).mono ?_; rintro e x9 ⟨rfl, h⟩; rw [HFD.out]; have H10 := Lib.hid h; clear h) | (go_at_call 8; refine (wakes_any _).mono ?_; rintro r w6 ⟨rfl, c6⟩; have C6 := Lib.hid c6; clear c6))
        go_ret
        exact ⟨rfl, H10.out.all.trans C6.out⟩
      · rw [b1, b2, b3] at hfd
        simp only [Bool.and_self, Bool.not_true, Bool.and_false] at hfd
        subst b3
        have HFD := Lib.hid hfd
        clear hfd
        go_wp2_with (first | (go_at_call 13; refine (by { obtain ⟨F, g1, _⟩ := H1.out; exact bpend_ok (i := k) g1 hk2 } : Calls Try.prog 13 _ _ (fun e w' => e = .returned (.int .i64 (S.core k).buf.length) ∧ Chg [] _ w')).mono ?_; rintro e y3 ⟨rfl, c⟩; rw [HL.out]; have H9 := Lib.hid (H1.out.chg c); clear c) | (go_at_call 11; refine (do_w H9.out H2.out (by omega) ⟨7, k, 0, 0, 0⟩).mono ?_; rintro e x9 ⟨rfl, h⟩; rw [HFD.out]; have H10 := Lib.hid h; clear h) | (go_at_call 8; refine (wakes_any _).mono ?_; rintro r w6 ⟨rfl, c6⟩; have C6 := Lib.hid c6; clear c6))
        go_ret
        exact ⟨rfl, H10.out.all.trans C6.out⟩
end Go.Proofs.Ytgpmhbkpagfjaaa
