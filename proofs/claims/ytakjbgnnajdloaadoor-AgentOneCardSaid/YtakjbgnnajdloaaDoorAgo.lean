/- Ago: AgentOne walked. No condition. -/
import Derived.Test.YtakjbgnnajdloaaDoorAgn
import Derived.Test.YtakjbgnnajdloaaDoorAgo1
import Derived.Test.YtakjbgnnajdloaaDoorArgs
import Derived.Test.YtakjbgnnajdloaaDoorAgm
import Derived.Test.YtakjbgnnajdloaaDoorArrw
import Derived.Test.YtakjbgnnajdloaaDoorMsgr
import Derived.BigQuiet
import Derived.Deep.RegionWith
import Derived.Deep.RegionHeld3
import Derived.Deep.QuietTactic
import Derived.Deep.Cut
import Derived.Deep.CutBlock
import Derived.Deep.CutRange
import Derived.Deep.DeepCutAuto
namespace Go.Proofs.YtakjbgnnajdloaaDoor
open Go.RowKit
set_option linter.unusedVariables false
set_option maxHeartbeats 1000000
attribute [local go_sem ↓] append_appS copy_copS clear_clrS make_mkS cell_row frozen_row loadLine storeLine loadSlot storeSlot heap_drew heap_drewN heap_alloc heap_past heap_setCell heap_putRow vs_get slc_st slc_li slc_us slice_slS loadMsg storeMsg loadHas storeHas msc_kd msc_li msc_di msc_ke
attribute [local go_sem] rowCell_some rowFrozen_some rowHas_some rowIn_some rowPart_full rowPart_lit rowPut_full rowPut_lit rowSet_some size_putRow vs_size vs_one wideLine wideSlot run_loadS run_storeS run_appS run_copS run_clrS run_mkS loadW_at storeW_at fit_all fit_le one_int one_bool one_pointer one_slice allOne_list putRow_new ne_size1 ne_size2 ne_size3 ne_size4 zero8_length line_eq lit8 slc_size slc_one slc_part slc_in fold_slt fold_slc slc_set_us wideMsg wideHas run_slS msc_size msc_one msc_part msc_in fold_msc msc_putDi msc_putKe msc_putX msc_has ms4_lit ms4_k ms4_l ms4_e
attribute [local simp ↓] heap_drew heap_drewN heap_alloc heap_past heap_setCell heap_putRow
attribute [local simp] rowCell_some rowFrozen_some rowHas_some rowIn_some rowPart_full rowPart_lit rowPut_full rowPut_lit rowSet_some size_putRow vs_size fit_all putRow_new ne_size1 ne_size2 ne_size3 ne_size4 zero8_length slc_size msc_size msc_putDi msc_putKe msc_putX msc_has fit_le ms4_k ms4_l ms4_e

attribute [local go_sem ↓] loadGSt storeGSt gsc_kd gsc_li gsc_wd gsc_v
attribute [local go_sem] wideGSt gsc_size gsc_one gsc_part gsc_in
attribute [local simp] gsc_size

/-! ### A step among others -/
def kGMs : List Kd := .int .i64 :: .int .i64 :: .bool :: .bool :: kLine
def kGStp : List Kd := .int .i64 :: .int .i64 :: .int .i64 :: .int .u64 :: kGMs
theorem gms_cells {w : World} {cs : List Value} (h : AreKd w kGMs cs) : ∃ m : Ms, cs = Ms.enc m := by
  obtain ⟨v0, c0, rfl, h0, hA⟩ := AreKd.head h
  obtain ⟨v1, c1, rfl, h1, hB⟩ := AreKd.head hA
  obtain ⟨v2, c2, rfl, h2, hC⟩ := AreKd.head hB
  obtain ⟨v3, c3, rfl, h3, hD⟩ := AreKd.head hC
  simp only [IsKd] at h0 h1 h2 h3
  obtain ⟨kd, rfl, _⟩ := h0
  obtain ⟨li, rfl, _⟩ := h1
  obtain ⟨di, rfl⟩ := h2
  obtain ⟨ke, rfl⟩ := h3
  obtain ⟨ns, hl, rfl, _⟩ := AreKd.ints (m := 8) hD
  exact ⟨⟨kd, li, di, ke, ns, hl⟩, rfl⟩
theorem gstp_cells {w : World} {cs : List Value} (h : AreKd w kGStp cs) : ∃ x : GStp, cs = GStp.enc x := by
  obtain ⟨v0, c0, rfl, h0, hA⟩ := AreKd.head h
  obtain ⟨v1, c1, rfl, h1, hB⟩ := AreKd.head hA
  obtain ⟨v2, c2, rfl, h2, hC⟩ := AreKd.head hB
  obtain ⟨v3, c3, rfl, h3, hD⟩ := AreKd.head hC
  simp only [IsKd] at h0 h1 h2 h3
  obtain ⟨kd, rfl, _⟩ := h0
  obtain ⟨li, rfl, _⟩ := h1
  obtain ⟨wd, rfl, _⟩ := h2
  obtain ⟨v, rfl, _⟩ := h3
  obtain ⟨m, rfl⟩ := gms_cells hD
  exact ⟨⟨kd, li, wd, v, m⟩, rfl⟩
theorem gstp_row {w wr : World} {A : Option Addr} {n : Nat} {xs : List Value} {l : List Nat} (hA : Sl w 16 A n xs) {i : Nat} (hi : i < n) (hk : AreKd w kGStp ((xs.drop (i * 16)).take 16)) (hc : Chg [] w wr) :
    ∃ (x : GStp) (b o : Nat) (c : Array Value) (t : TypeId) (f : Nat × Nat), A = some ⟨b, o, none⟩ ∧ wr.heap[b]? = some (.cells c t f) ∧ rowIn (some (.cells c t f)) (o + i * 16) 16 = true ∧ rowPart (some (.cells c t f)) (o + i * 16) 16 = gsc x := by
  obtain ⟨x, hy⟩ := gstp_cells hk
  obtain ⟨b, o, rfl⟩ := hA.addr (by omega)
  obtain ⟨cs, t, f, hb, _, hp⟩ := (hA.chg hc (by simp)).elem (by omega) hi hy
  have h0 := hp 0 16 (by omega)
  rw [Nat.add_zero] at h0
  refine ⟨x, b, o, cs, t, f, rfl, hb, h0.1, ?_⟩
  rw [h0.2]
  simp [gsc, GStp.enc, Ms.len, List.take_of_length_le]
theorem way_live (xs : List Slt) : wayN (live xs) = wayN xs := by
  unfold wayN live
  rw [List.countP_filter]
  congr 1
  funext x
  unfold wayB
  cases h : (x.st == 0)
  · simp [bne, h]
  · have : x.st = 0 := by simpa using h
    simp [this]
set_option maxHeartbeats 8000000 in
set_option maxRecDepth 100000 in
theorem gone_any (nv wv : Int) (n0 : 0 ≤ nv) (n1 : nv ≤ 255) (v0 : 0 ≤ wv) (v1 : wv ≤ 255) (A : Option Addr) (N cN : Nat) (xs : List Value) (W : World) (hT : Tabs W) (hA : Sl W 16 A N xs) (hN : N ≤ maxLen) (hk : ∀ i, i < N → AreKd W kGStp ((xs.drop (i * 16)).take 16)) :
    Calls Tryd.prog 4 #[.int .u8 nv, .int .u8 wv, .slice A N cN] W fun e w' => e = .returned (.bool true) ∧ Chg [] W w' := by
  unfold maxLen at hN
  have HT := Lib.hid hT
  have HA := Lib.hid hA
  have HK := Lib.hid hk
  clear hA hk hT
  obtain ⟨M, hM⟩ : ∃ M : Nat, 1 + wv % 8 = (M : Int) := ⟨(1 + wv % 8).toNat, by omega⟩
  obtain ⟨r, hr⟩ : ∃ r : Nat, nv % 4 = (r : Int) := ⟨(nv % 4).toNat, by omega⟩
  have M1 : 1 ≤ M := by omega
  have M8 : M ≤ 8 := by omega
  have r4 : r < 4 := by omega
  obtain ⟨S, hS⟩ : ∃ S : Nat, 2 ^ r = S := ⟨_, rfl⟩
  have HSS := Lib.hid (show S = 1 ∨ S = 2 ∨ S = 4 ∨ S = 8 by
    have : r = 0 ∨ r = 1 ∨ r = 2 ∨ r = 3 := by omega
    rcases this with rfl | rfl | rfl | rfl <;> simp at hS <;> omega)
  have hw : wrap64 (2 ^ r) = (S : Int) := by
    have : r = 0 ∨ r = 1 ∨ r = 2 ∨ r = 3 := by omega
    rcases this with rfl | rfl | rfl | rfl <;> subst hS <;> first | rfl | decide | (simp [wrap64]; done) | (unfold wrap64; omega)
  have HGN := Lib.hid (show goodNew (S : Int) (M : Int) by have := HSS.out; unfold goodNew; omega)
  go_enter Tryd.func4, Tryd.ntmps4
  try dsimp only [List.append]
  go_wp2_with fail
  refine (gnew_ok S M W W (Chg.refl _ _) HGN.out).mono ?_
  rintro e w1 ⟨g, a, b, rfl, h0, _⟩
  have H := Lib.hid h0
  clear h0
  by_cases h200 : 200 < N
  · have t0 : decide (200 < N) = true := by simpa using h200
    go_wp2_with (go_at_call 10; refine (awakes _ ⟨HT.out.1.keep H.out.1.1 (by simp), HT.out.2.keep H.out.1.1 (by simp)⟩).mono ?_; rintro e w2 ⟨rfl, c2⟩)
    go_ret
    exact ⟨rfl, H.out.1.1.trans c2⟩
  have t0 : decide (200 < N) = false := by simpa using h200
  have hN' : N ≤ 200 := by omega
  have gN : (N : Int) ≤ 200 := by omega
  clear hM hr hS hw
  go_wp2_with fail
  go_loopw [9] (fun i wr => ∃ (k : Nat) (s : Sta), k ≤ N ∧ i = .int .i64 k ∧ Agt W wr g a b S M s ∧ wayN s.1 ≤ 1 ∧ s.2 ≤ k) (fun i _ => N - (intOf i).toNat)
  case atStart =>
    refine ⟨0, _, by omega, rfl, H.out, ?_, by show (0 : Int) ≤ 0; omega⟩
    have : wayN (List.replicate (S * M) sltZ) = 0 := by unfold wayN; rw [List.countP_replicate]; rfl
    show wayN (List.replicate (S * M) sltZ) ≤ 1
    omega
  case round =>
    clear H
    obtain ⟨k, s, hk, rfl, h0, hw, hu⟩ := hrel
    have H := Lib.hid h0
    clear h0
    by_cases hlt : k < N
    · have g1 : (k : Int) < (N : Int) := by omega
      have g0 : (0 : Int) ≤ (k : Int) := by omega
      obtain ⟨x, bA, oA, cA, tA, fA, rfl, rA, rAi, rAp⟩ := gstp_row (l := []) HA.out hlt (HK.out k hlt) H.out.1.1
      go_wp2_with fail
      have cb := (Chg.refl [] wr).alloc (.cells (gsc x) 37)
      have rX : (wr.alloc (.cells (gsc x) 37)).heap[wr.heap.size]? = some (.cells (gsc x) 37 (0, 0)) := by simp
      replace H := Lib.hid (H.out.keep cb)
      clear cb rA rAi rAp
      generalize wr.heap.size = pX at rX ⊢
      generalize wr.alloc (.cells (gsc x) 37) = w2 at rX H ⊢
      have oX := old rX
      have hkd : x.kd = 0 ∨ x.kd = 1 ∨ x.kd = 2 ∨ x.kd = 3 ∨ x.kd = 4 ∨ (x.kd ≠ 0 ∧ x.kd ≠ 1 ∧ x.kd ≠ 2 ∧ x.kd ≠ 3 ∧ x.kd ≠ 4) := by omega
      rcases hkd with hkd | hkd | hkd | hkd | hkd | hkd
      · skip
        have k0 : (x.kd == 0) = true := by simp; omega
        clear hkd
        refine (gidle_any w2 H.out).mono ?_
        rintro e w3 ⟨rfl, c3⟩
        replace H := Lib.hid (H.out.keep c3)
        replace rX := c3.keep rX List.not_mem_nil
        clear c3
        go_wp2_with fail
        have hc := gload_any x.li x.wd w3 H.out (by omega)
        have hone := loadF_one H.out.good H.out.sane x.li x.wd
        have huu : s.2 ≤ (loadF S M s x.li x.wd).1.2 ∧ (loadF S M s x.li x.wd).1.2 ≤ s.2 + 1 := loadF_u
        generalize loadF S M s x.li x.wd = r at hc hone huu
        obtain ⟨hle, hon, hwa⟩ := hone
        refine hc.mono ?_
        clear hc
        rintro e w5 ⟨A1, n1, rfl, h1, h2, h3⟩
        obtain ⟨s', hs'⟩ : ∃ s', s' = r.1 := ⟨_, rfl⟩
        rw [← hs'] at h2 hon hwa huu
        replace H := Lib.hid h2
        have hw' : wayN s'.1 ≤ 1 := hwa hw
        have hu' : s'.2 ≤ s.2 + 1 := huu.2
        clear h1 h2 h3 hwa huu hs'
        have hlen : (r.2.2.2).length = 0 ∨ (r.2.2.2).length = 1 := by omega
        rcases hlen with hn | hn
        · clear hon hle
          rw [hn]
          go_wp2_with fail
          refine (gslots_any w5 H.out).mono ?_
          rintro e w6 ⟨AS, cS, rfl, hsl, c6⟩
          have HL := Lib.hid hsl
          replace H := Lib.hid (H.out.keep c6)
          clear hsl c6
          obtain ⟨ys, hys⟩ : ∃ ys, ys = live s'.1 := ⟨_, rfl⟩
          have hy64 : ys.length ≤ 64 := by rw [hys]; exact Nat.le_trans (live_le _) H.out.good.len64
          have hwy : wayN ys = wayN s'.1 := by rw [hys]; exact way_live _
          rw [← hys] at HL ⊢
          obtain ⟨q, hq⟩ : ∃ q, q = ys.length := ⟨_, rfl⟩
          rw [← hq] at HL hy64 ⊢
          have HQ := Lib.hid hq
          have HW := Lib.hid hwy
          clear hq hwy hys
          go_wp2_with fail
          go_loopw [14, 15] (fun c i wq => ∃ j : Nat, j ≤ q ∧ i = .int .i64 j ∧ c = .int .i64 (wayN (ys.take j) : Nat) ∧ Chg [] w6 wq) (fun _ i _ => q - (intOf i).toNat)
          case atStart => exact ⟨0, by omega, rfl, rfl, Chg.refl _ _⟩
          case round =>
            obtain ⟨j, hj, rfl, rfl, hcq⟩ := hrel
            have HCQ := Lib.hid hcq
            clear hcq
            by_cases hjl : j < q
            · obtain ⟨b1, o1, rfl⟩ := HL.out.addr (by omega)
              obtain ⟨y, hy⟩ : ∃ y, ys[j]? = some y := ⟨ys[j]'(by rw [← HQ.out]; exact hjl), List.getElem?_eq_getElem _⟩
              obtain ⟨cs1, t1, f1, hb1, z0, z1, z2, z3, z4⟩ := slt_all HL.out HCQ.out (by simp) hjl hy
              have v1 : (j : Int) < (q : Int) := by omega
              have v0 : (0 : Int) ≤ (j : Int) := by omega
              have v2 : (q : Int) ≤ 64 := by omega
              have hwl : wayN (ys.take j) ≤ 64 := by unfold wayN; have := List.countP_le_length (p := wayB) (l := ys.take j); rw [List.length_take] at this; omega
              have hsu : wayN (ys.take (j + 1)) = wayN (ys.take j) + way1 y.st := by
                unfold wayN
                rw [List.take_succ_eq_append_getElem (by rw [← HQ.out]; exact hjl : j < ys.length), List.countP_append, show ys[j]'(by rw [← HQ.out]; exact hjl) = y from (List.getElem?_eq_some_iff.1 hy).2]
                unfold way1 wayB
                by_cases h3 : 3 < y.st <;> simp [h3]
              have HSU := Lib.hid hsu
              obtain ⟨p, hp⟩ : ∃ p, p = wayN (ys.take j) := ⟨_, rfl⟩
              rw [← hp] at hwl ⊢
              have HPP := Lib.hid hp
              clear hsu hy hp
              cases h3 : decide (3 < y.st)
              · go_wp2_with fail
                go_roundw
                case rel =>
                  refine ⟨j + 1, by omega, by go_num, ?_, HCQ.out⟩
                  rw [HSU.out, ← HPP.out, way1_rest (by simpa using h3)]; rfl
                case measure => simp [intOf]; omega
              · go_wp2_with fail
                go_roundw
                case rel =>
                  refine ⟨j + 1, by omega, by go_num, ?_, HCQ.out⟩
                  rw [HSU.out, ← HPP.out, way1_way (by simpa using h3)]; go_num
                case measure => simp [intOf]; omega
            · obtain rfl : j = q := by omega
              have hfull : wayN (ys.take j) = wayN s'.1 := by rw [HQ.out, List.take_length]; exact HW.out
              rw [hfull]
              replace H := Lib.hid (H.out.keep HCQ.out)
              have hidl := idle_way H.out.sane
              clear hfull
              have hm2 : wayN s'.1 = 0 ∨ wayN s'.1 = 1 := by omega
              rcases hm2 with hm | hm
              · rw [hm]
                have hiv : idleB s'.1 = true := by rw [hidl, hm]; rfl
                go_wp2_with fail
                refine (gidle_at true hiv _ H.out).mono ?_
                rintro e w9 ⟨rfl, c9⟩
                go_wp2_with fail
                go_roundw
                case rel => exact ⟨k + 1, s', by omega, by go_num, H.out.keep c9, by omega, by omega⟩
                case measure => simp [intOf]; omega
              · rw [hm]
                have hiv : idleB s'.1 = false := by rw [hidl, hm]; rfl
                go_wp2_with fail
                refine (gidle_at false hiv _ H.out).mono ?_
                rintro e w9 ⟨rfl, c9⟩
                go_wp2_with fail
                go_roundw
                case rel => exact ⟨k + 1, s', by omega, by go_num, H.out.keep c9, by omega, by omega⟩
                case measure => simp [intOf]; omega
        · obtain ⟨hi1, hw1⟩ := hon hn
          clear hle
          rw [hn]
          go_wp2_with fail
          refine (gslots_any w5 H.out).mono ?_
          rintro e w6 ⟨AS, cS, rfl, hsl, c6⟩
          have HL := Lib.hid hsl
          replace H := Lib.hid (H.out.keep c6)
          clear hsl c6
          obtain ⟨ys, hys⟩ : ∃ ys, ys = live s'.1 := ⟨_, rfl⟩
          have hy64 : ys.length ≤ 64 := by rw [hys]; exact Nat.le_trans (live_le _) H.out.good.len64
          have hwy : wayN ys = wayN s'.1 := by rw [hys]; exact way_live _
          rw [← hys] at HL ⊢
          obtain ⟨q, hq⟩ : ∃ q, q = ys.length := ⟨_, rfl⟩
          rw [← hq] at HL hy64 ⊢
          have HQ := Lib.hid hq
          have HW := Lib.hid hwy
          clear hq hwy hys
          go_wp2_with fail
          go_loopw [14, 15] (fun c i wq => ∃ j : Nat, j ≤ q ∧ i = .int .i64 j ∧ c = .int .i64 (wayN (ys.take j) : Nat) ∧ Chg [] w6 wq) (fun _ i _ => q - (intOf i).toNat)
          case atStart => exact ⟨0, by omega, rfl, rfl, Chg.refl _ _⟩
          case round =>
            obtain ⟨j, hj, rfl, rfl, hcq⟩ := hrel
            have HCQ := Lib.hid hcq
            clear hcq
            by_cases hjl : j < q
            · obtain ⟨b1, o1, rfl⟩ := HL.out.addr (by omega)
              obtain ⟨y, hy⟩ : ∃ y, ys[j]? = some y := ⟨ys[j]'(by rw [← HQ.out]; exact hjl), List.getElem?_eq_getElem _⟩
              obtain ⟨cs1, t1, f1, hb1, z0, z1, z2, z3, z4⟩ := slt_all HL.out HCQ.out (by simp) hjl hy
              have v1 : (j : Int) < (q : Int) := by omega
              have v0 : (0 : Int) ≤ (j : Int) := by omega
              have v2 : (q : Int) ≤ 64 := by omega
              have hwl : wayN (ys.take j) ≤ 64 := by unfold wayN; have := List.countP_le_length (p := wayB) (l := ys.take j); rw [List.length_take] at this; omega
              have hsu : wayN (ys.take (j + 1)) = wayN (ys.take j) + way1 y.st := by
                unfold wayN
                rw [List.take_succ_eq_append_getElem (by rw [← HQ.out]; exact hjl : j < ys.length), List.countP_append, show ys[j]'(by rw [← HQ.out]; exact hjl) = y from (List.getElem?_eq_some_iff.1 hy).2]
                unfold way1 wayB
                by_cases h3 : 3 < y.st <;> simp [h3]
              have HSU := Lib.hid hsu
              obtain ⟨p, hp⟩ : ∃ p, p = wayN (ys.take j) := ⟨_, rfl⟩
              rw [← hp] at hwl ⊢
              have HPP := Lib.hid hp
              clear hsu hy hp
              cases h3 : decide (3 < y.st)
              · go_wp2_with fail
                go_roundw
                case rel =>
                  refine ⟨j + 1, by omega, by go_num, ?_, HCQ.out⟩
                  rw [HSU.out, ← HPP.out, way1_rest (by simpa using h3)]; rfl
                case measure => simp [intOf]; omega
              · go_wp2_with fail
                go_roundw
                case rel =>
                  refine ⟨j + 1, by omega, by go_num, ?_, HCQ.out⟩
                  rw [HSU.out, ← HPP.out, way1_way (by simpa using h3)]; go_num
                case measure => simp [intOf]; omega
            · obtain rfl : j = q := by omega
              have hfull : wayN (ys.take j) = wayN s'.1 := by rw [HQ.out, List.take_length]; exact HW.out
              rw [hfull]
              replace H := Lib.hid (H.out.keep HCQ.out)
              have hidl := idle_way H.out.sane
              clear hfull
              have hm : wayN s'.1 = 1 := hw1
              rw [hm]
              have hiv : idleB s'.1 = false := by rw [hidl, hm]; rfl
              go_wp2_with fail
              refine (gidle_at false hiv _ H.out).mono ?_
              rintro e w9 ⟨rfl, c9⟩
              go_wp2_with fail
              go_roundw
              case rel => exact ⟨k + 1, s', by omega, by go_num, H.out.keep c9, by omega, by omega⟩
              case measure => simp [intOf]; omega
      · skip
        have k0 : (x.kd == 0) = false := by simp; omega
        have k1 : (x.kd == 1) = true := by simp; omega
        clear hkd
        refine (gidle_any w2 H.out).mono ?_
        rintro e w3 ⟨rfl, c3⟩
        replace H := Lib.hid (H.out.keep c3)
        replace rX := c3.keep rX List.not_mem_nil
        clear c3
        go_wp2_with fail
        have hc := gstore_any x.li x.wd x.v w3 H.out (by omega)
        have hone := storeF_one H.out.good H.out.sane x.li x.wd x.v
        have huu : s.2 ≤ (storeF S M s x.li x.wd x.v).1.2 ∧ (storeF S M s x.li x.wd x.v).1.2 ≤ s.2 + 1 := storeF_u
        generalize storeF S M s x.li x.wd x.v = r at hc hone huu
        obtain ⟨hle, hon, hwa⟩ := hone
        refine hc.mono ?_
        clear hc
        rintro e w5 ⟨A1, n1, rfl, h1, h2, h3⟩
        obtain ⟨s', hs'⟩ : ∃ s', s' = r.1 := ⟨_, rfl⟩
        rw [← hs'] at h2 hon hwa huu
        replace H := Lib.hid h2
        have hw' : wayN s'.1 ≤ 1 := hwa hw
        have hu' : s'.2 ≤ s.2 + 1 := huu.2
        clear h1 h2 h3 hwa huu hs'
        have hlen : (r.2.2).length = 0 ∨ (r.2.2).length = 1 := by omega
        rcases hlen with hn | hn
        · clear hon hle
          rw [hn]
          go_wp2_with fail
          refine (gslots_any w5 H.out).mono ?_
          rintro e w6 ⟨AS, cS, rfl, hsl, c6⟩
          have HL := Lib.hid hsl
          replace H := Lib.hid (H.out.keep c6)
          clear hsl c6
          obtain ⟨ys, hys⟩ : ∃ ys, ys = live s'.1 := ⟨_, rfl⟩
          have hy64 : ys.length ≤ 64 := by rw [hys]; exact Nat.le_trans (live_le _) H.out.good.len64
          have hwy : wayN ys = wayN s'.1 := by rw [hys]; exact way_live _
          rw [← hys] at HL ⊢
          obtain ⟨q, hq⟩ : ∃ q, q = ys.length := ⟨_, rfl⟩
          rw [← hq] at HL hy64 ⊢
          have HQ := Lib.hid hq
          have HW := Lib.hid hwy
          clear hq hwy hys
          go_wp2_with fail
          go_loopw [14, 15] (fun c i wq => ∃ j : Nat, j ≤ q ∧ i = .int .i64 j ∧ c = .int .i64 (wayN (ys.take j) : Nat) ∧ Chg [] w6 wq) (fun _ i _ => q - (intOf i).toNat)
          case atStart => exact ⟨0, by omega, rfl, rfl, Chg.refl _ _⟩
          case round =>
            obtain ⟨j, hj, rfl, rfl, hcq⟩ := hrel
            have HCQ := Lib.hid hcq
            clear hcq
            by_cases hjl : j < q
            · obtain ⟨b1, o1, rfl⟩ := HL.out.addr (by omega)
              obtain ⟨y, hy⟩ : ∃ y, ys[j]? = some y := ⟨ys[j]'(by rw [← HQ.out]; exact hjl), List.getElem?_eq_getElem _⟩
              obtain ⟨cs1, t1, f1, hb1, z0, z1, z2, z3, z4⟩ := slt_all HL.out HCQ.out (by simp) hjl hy
              have v1 : (j : Int) < (q : Int) := by omega
              have v0 : (0 : Int) ≤ (j : Int) := by omega
              have v2 : (q : Int) ≤ 64 := by omega
              have hwl : wayN (ys.take j) ≤ 64 := by unfold wayN; have := List.countP_le_length (p := wayB) (l := ys.take j); rw [List.length_take] at this; omega
              have hsu : wayN (ys.take (j + 1)) = wayN (ys.take j) + way1 y.st := by
                unfold wayN
                rw [List.take_succ_eq_append_getElem (by rw [← HQ.out]; exact hjl : j < ys.length), List.countP_append, show ys[j]'(by rw [← HQ.out]; exact hjl) = y from (List.getElem?_eq_some_iff.1 hy).2]
                unfold way1 wayB
                by_cases h3 : 3 < y.st <;> simp [h3]
              have HSU := Lib.hid hsu
              obtain ⟨p, hp⟩ : ∃ p, p = wayN (ys.take j) := ⟨_, rfl⟩
              rw [← hp] at hwl ⊢
              have HPP := Lib.hid hp
              clear hsu hy hp
              cases h3 : decide (3 < y.st)
              · go_wp2_with fail
                go_roundw
                case rel =>
                  refine ⟨j + 1, by omega, by go_num, ?_, HCQ.out⟩
                  rw [HSU.out, ← HPP.out, way1_rest (by simpa using h3)]; rfl
                case measure => simp [intOf]; omega
              · go_wp2_with fail
                go_roundw
                case rel =>
                  refine ⟨j + 1, by omega, by go_num, ?_, HCQ.out⟩
                  rw [HSU.out, ← HPP.out, way1_way (by simpa using h3)]; go_num
                case measure => simp [intOf]; omega
            · obtain rfl : j = q := by omega
              have hfull : wayN (ys.take j) = wayN s'.1 := by rw [HQ.out, List.take_length]; exact HW.out
              rw [hfull]
              replace H := Lib.hid (H.out.keep HCQ.out)
              have hidl := idle_way H.out.sane
              clear hfull
              have hm2 : wayN s'.1 = 0 ∨ wayN s'.1 = 1 := by omega
              rcases hm2 with hm | hm
              · rw [hm]
                have hiv : idleB s'.1 = true := by rw [hidl, hm]; rfl
                go_wp2_with fail
                refine (gidle_at true hiv _ H.out).mono ?_
                rintro e w9 ⟨rfl, c9⟩
                go_wp2_with fail
                go_roundw
                case rel => exact ⟨k + 1, s', by omega, by go_num, H.out.keep c9, by omega, by omega⟩
                case measure => simp [intOf]; omega
              · rw [hm]
                have hiv : idleB s'.1 = false := by rw [hidl, hm]; rfl
                go_wp2_with fail
                refine (gidle_at false hiv _ H.out).mono ?_
                rintro e w9 ⟨rfl, c9⟩
                go_wp2_with fail
                go_roundw
                case rel => exact ⟨k + 1, s', by omega, by go_num, H.out.keep c9, by omega, by omega⟩
                case measure => simp [intOf]; omega
        · obtain ⟨hi1, hw1⟩ := hon hn
          clear hle
          rw [hn]
          go_wp2_with fail
          refine (gslots_any w5 H.out).mono ?_
          rintro e w6 ⟨AS, cS, rfl, hsl, c6⟩
          have HL := Lib.hid hsl
          replace H := Lib.hid (H.out.keep c6)
          clear hsl c6
          obtain ⟨ys, hys⟩ : ∃ ys, ys = live s'.1 := ⟨_, rfl⟩
          have hy64 : ys.length ≤ 64 := by rw [hys]; exact Nat.le_trans (live_le _) H.out.good.len64
          have hwy : wayN ys = wayN s'.1 := by rw [hys]; exact way_live _
          rw [← hys] at HL ⊢
          obtain ⟨q, hq⟩ : ∃ q, q = ys.length := ⟨_, rfl⟩
          rw [← hq] at HL hy64 ⊢
          have HQ := Lib.hid hq
          have HW := Lib.hid hwy
          clear hq hwy hys
          go_wp2_with fail
          go_loopw [14, 15] (fun c i wq => ∃ j : Nat, j ≤ q ∧ i = .int .i64 j ∧ c = .int .i64 (wayN (ys.take j) : Nat) ∧ Chg [] w6 wq) (fun _ i _ => q - (intOf i).toNat)
          case atStart => exact ⟨0, by omega, rfl, rfl, Chg.refl _ _⟩
          case round =>
            obtain ⟨j, hj, rfl, rfl, hcq⟩ := hrel
            have HCQ := Lib.hid hcq
            clear hcq
            by_cases hjl : j < q
            · obtain ⟨b1, o1, rfl⟩ := HL.out.addr (by omega)
              obtain ⟨y, hy⟩ : ∃ y, ys[j]? = some y := ⟨ys[j]'(by rw [← HQ.out]; exact hjl), List.getElem?_eq_getElem _⟩
              obtain ⟨cs1, t1, f1, hb1, z0, z1, z2, z3, z4⟩ := slt_all HL.out HCQ.out (by simp) hjl hy
              have v1 : (j : Int) < (q : Int) := by omega
              have v0 : (0 : Int) ≤ (j : Int) := by omega
              have v2 : (q : Int) ≤ 64 := by omega
              have hwl : wayN (ys.take j) ≤ 64 := by unfold wayN; have := List.countP_le_length (p := wayB) (l := ys.take j); rw [List.length_take] at this; omega
              have hsu : wayN (ys.take (j + 1)) = wayN (ys.take j) + way1 y.st := by
                unfold wayN
                rw [List.take_succ_eq_append_getElem (by rw [← HQ.out]; exact hjl : j < ys.length), List.countP_append, show ys[j]'(by rw [← HQ.out]; exact hjl) = y from (List.getElem?_eq_some_iff.1 hy).2]
                unfold way1 wayB
                by_cases h3 : 3 < y.st <;> simp [h3]
              have HSU := Lib.hid hsu
              obtain ⟨p, hp⟩ : ∃ p, p = wayN (ys.take j) := ⟨_, rfl⟩
              rw [← hp] at hwl ⊢
              have HPP := Lib.hid hp
              clear hsu hy hp
              cases h3 : decide (3 < y.st)
              · go_wp2_with fail
                go_roundw
                case rel =>
                  refine ⟨j + 1, by omega, by go_num, ?_, HCQ.out⟩
                  rw [HSU.out, ← HPP.out, way1_rest (by simpa using h3)]; rfl
                case measure => simp [intOf]; omega
              · go_wp2_with fail
                go_roundw
                case rel =>
                  refine ⟨j + 1, by omega, by go_num, ?_, HCQ.out⟩
                  rw [HSU.out, ← HPP.out, way1_way (by simpa using h3)]; go_num
                case measure => simp [intOf]; omega
            · obtain rfl : j = q := by omega
              have hfull : wayN (ys.take j) = wayN s'.1 := by rw [HQ.out, List.take_length]; exact HW.out
              rw [hfull]
              replace H := Lib.hid (H.out.keep HCQ.out)
              have hidl := idle_way H.out.sane
              clear hfull
              have hm : wayN s'.1 = 1 := hw1
              rw [hm]
              have hiv : idleB s'.1 = false := by rw [hidl, hm]; rfl
              go_wp2_with fail
              refine (gidle_at false hiv _ H.out).mono ?_
              rintro e w9 ⟨rfl, c9⟩
              go_wp2_with fail
              go_roundw
              case rel => exact ⟨k + 1, s', by omega, by go_num, H.out.keep c9, by omega, by omega⟩
              case measure => simp [intOf]; omega
      · skip
        have k0 : (x.kd == 0) = false := by simp; omega
        have k1 : (x.kd == 1) = false := by simp; omega
        have k2 : (x.kd == 2) = true := by simp; omega
        clear hkd
        refine (gidle_any w2 H.out).mono ?_
        rintro e w3 ⟨rfl, c3⟩
        replace H := Lib.hid (H.out.keep c3)
        replace rX := c3.keep rX List.not_mem_nil
        clear c3
        go_wp2_with fail
        have hc := ghear_any x.m w3 H.out (by omega) HT.out
        have hone := hearF_one (S := S) (N := M) (s := s) x.m
        have huu : s.2 ≤ (hearF S M s x.m).1.2 ∧ (hearF S M s x.m).1.2 ≤ s.2 + 1 := hearF_u
        generalize hearF S M s x.m = r at hc hone huu
        obtain ⟨hle, hon, hwa⟩ := hone
        refine hc.mono ?_
        clear hc
        rintro e w5 ⟨A1, n1, rfl, h1, h2, h3⟩
        obtain ⟨s', hs'⟩ : ∃ s', s' = r.1 := ⟨_, rfl⟩
        rw [← hs'] at h2 hon hwa huu
        replace H := Lib.hid h2
        have hw' : wayN s'.1 ≤ 1 := hwa hw
        have hu' : s'.2 ≤ s.2 + 1 := huu.2
        clear h1 h2 h3 hwa huu hs'
        clear hon hle
        go_wp2_with fail
        refine (gslots_any w5 H.out).mono ?_
        rintro e w6 ⟨AS, cS, rfl, hsl, c6⟩
        have HL := Lib.hid hsl
        replace H := Lib.hid (H.out.keep c6)
        clear hsl c6
        obtain ⟨ys, hys⟩ : ∃ ys, ys = live s'.1 := ⟨_, rfl⟩
        have hy64 : ys.length ≤ 64 := by rw [hys]; exact Nat.le_trans (live_le _) H.out.good.len64
        have hwy : wayN ys = wayN s'.1 := by rw [hys]; exact way_live _
        rw [← hys] at HL ⊢
        obtain ⟨q, hq⟩ : ∃ q, q = ys.length := ⟨_, rfl⟩
        rw [← hq] at HL hy64 ⊢
        have HQ := Lib.hid hq
        have HW := Lib.hid hwy
        clear hq hwy hys
        go_wp2_with fail
        go_loopw [14, 15] (fun c i wq => ∃ j : Nat, j ≤ q ∧ i = .int .i64 j ∧ c = .int .i64 (wayN (ys.take j) : Nat) ∧ Chg [] w6 wq) (fun _ i _ => q - (intOf i).toNat)
        case atStart => exact ⟨0, by omega, rfl, rfl, Chg.refl _ _⟩
        case round =>
          obtain ⟨j, hj, rfl, rfl, hcq⟩ := hrel
          have HCQ := Lib.hid hcq
          clear hcq
          by_cases hjl : j < q
          · obtain ⟨b1, o1, rfl⟩ := HL.out.addr (by omega)
            obtain ⟨y, hy⟩ : ∃ y, ys[j]? = some y := ⟨ys[j]'(by rw [← HQ.out]; exact hjl), List.getElem?_eq_getElem _⟩
            obtain ⟨cs1, t1, f1, hb1, z0, z1, z2, z3, z4⟩ := slt_all HL.out HCQ.out (by simp) hjl hy
            have v1 : (j : Int) < (q : Int) := by omega
            have v0 : (0 : Int) ≤ (j : Int) := by omega
            have v2 : (q : Int) ≤ 64 := by omega
            have hwl : wayN (ys.take j) ≤ 64 := by unfold wayN; have := List.countP_le_length (p := wayB) (l := ys.take j); rw [List.length_take] at this; omega
            have hsu : wayN (ys.take (j + 1)) = wayN (ys.take j) + way1 y.st := by
              unfold wayN
              rw [List.take_succ_eq_append_getElem (by rw [← HQ.out]; exact hjl : j < ys.length), List.countP_append, show ys[j]'(by rw [← HQ.out]; exact hjl) = y from (List.getElem?_eq_some_iff.1 hy).2]
              unfold way1 wayB
              by_cases h3 : 3 < y.st <;> simp [h3]
            have HSU := Lib.hid hsu
            obtain ⟨p, hp⟩ : ∃ p, p = wayN (ys.take j) := ⟨_, rfl⟩
            rw [← hp] at hwl ⊢
            have HPP := Lib.hid hp
            clear hsu hy hp
            cases h3 : decide (3 < y.st)
            · go_wp2_with fail
              go_roundw
              case rel =>
                refine ⟨j + 1, by omega, by go_num, ?_, HCQ.out⟩
                rw [HSU.out, ← HPP.out, way1_rest (by simpa using h3)]; rfl
              case measure => simp [intOf]; omega
            · go_wp2_with fail
              go_roundw
              case rel =>
                refine ⟨j + 1, by omega, by go_num, ?_, HCQ.out⟩
                rw [HSU.out, ← HPP.out, way1_way (by simpa using h3)]; go_num
              case measure => simp [intOf]; omega
          · obtain rfl : j = q := by omega
            have hfull : wayN (ys.take j) = wayN s'.1 := by rw [HQ.out, List.take_length]; exact HW.out
            rw [hfull]
            replace H := Lib.hid (H.out.keep HCQ.out)
            have hidl := idle_way H.out.sane
            clear hfull
            have hm2 : wayN s'.1 = 0 ∨ wayN s'.1 = 1 := by omega
            rcases hm2 with hm | hm
            · rw [hm]
              have hiv : idleB s'.1 = true := by rw [hidl, hm]; rfl
              go_wp2_with fail
              refine (gidle_at true hiv _ H.out).mono ?_
              rintro e w9 ⟨rfl, c9⟩
              go_wp2_with fail
              go_roundw
              case rel => exact ⟨k + 1, s', by omega, by go_num, H.out.keep c9, by omega, by omega⟩
              case measure => simp [intOf]; omega
            · rw [hm]
              have hiv : idleB s'.1 = false := by rw [hidl, hm]; rfl
              go_wp2_with fail
              refine (gidle_at false hiv _ H.out).mono ?_
              rintro e w9 ⟨rfl, c9⟩
              go_wp2_with fail
              go_roundw
              case rel => exact ⟨k + 1, s', by omega, by go_num, H.out.keep c9, by omega, by omega⟩
              case measure => simp [intOf]; omega
      · skip
        have k0 : (x.kd == 0) = false := by simp; omega
        have k1 : (x.kd == 1) = false := by simp; omega
        have k2 : (x.kd == 2) = false := by simp; omega
        have k3 : (x.kd == 3) = true := by simp; omega
        clear hkd
        refine (gidle_any w2 H.out).mono ?_
        rintro e w3 ⟨rfl, c3⟩
        replace H := Lib.hid (H.out.keep c3)
        replace rX := c3.keep rX List.not_mem_nil
        clear c3
        go_wp2_with fail
        have hc := gevict_any x.li w3 H.out (by omega)
        have hone := evictF_one H.out.good H.out.sane x.li
        have huu : s.2 ≤ (evictF S M s x.li).1.2 ∧ (evictF S M s x.li).1.2 ≤ s.2 + 1 := evictF_u
        generalize evictF S M s x.li = r at hc hone huu
        obtain ⟨hle, hon, hwa⟩ := hone
        refine hc.mono ?_
        clear hc
        rintro e w5 ⟨A1, n1, rfl, h1, h2, h3⟩
        obtain ⟨s', hs'⟩ : ∃ s', s' = r.1 := ⟨_, rfl⟩
        rw [← hs'] at h2 hon hwa huu
        replace H := Lib.hid h2
        have hw' : wayN s'.1 ≤ 1 := hwa hw
        have hu' : s'.2 ≤ s.2 + 1 := huu.2
        clear h1 h2 h3 hwa huu hs'
        have hlen : (r.2.1).length = 0 ∨ (r.2.1).length = 1 := by omega
        rcases hlen with hn | hn
        · clear hon hle
          rw [hn]
          go_wp2_with fail
          refine (gslots_any w5 H.out).mono ?_
          rintro e w6 ⟨AS, cS, rfl, hsl, c6⟩
          have HL := Lib.hid hsl
          replace H := Lib.hid (H.out.keep c6)
          clear hsl c6
          obtain ⟨ys, hys⟩ : ∃ ys, ys = live s'.1 := ⟨_, rfl⟩
          have hy64 : ys.length ≤ 64 := by rw [hys]; exact Nat.le_trans (live_le _) H.out.good.len64
          have hwy : wayN ys = wayN s'.1 := by rw [hys]; exact way_live _
          rw [← hys] at HL ⊢
          obtain ⟨q, hq⟩ : ∃ q, q = ys.length := ⟨_, rfl⟩
          rw [← hq] at HL hy64 ⊢
          have HQ := Lib.hid hq
          have HW := Lib.hid hwy
          clear hq hwy hys
          go_wp2_with fail
          go_loopw [14, 15] (fun c i wq => ∃ j : Nat, j ≤ q ∧ i = .int .i64 j ∧ c = .int .i64 (wayN (ys.take j) : Nat) ∧ Chg [] w6 wq) (fun _ i _ => q - (intOf i).toNat)
          case atStart => exact ⟨0, by omega, rfl, rfl, Chg.refl _ _⟩
          case round =>
            obtain ⟨j, hj, rfl, rfl, hcq⟩ := hrel
            have HCQ := Lib.hid hcq
            clear hcq
            by_cases hjl : j < q
            · obtain ⟨b1, o1, rfl⟩ := HL.out.addr (by omega)
              obtain ⟨y, hy⟩ : ∃ y, ys[j]? = some y := ⟨ys[j]'(by rw [← HQ.out]; exact hjl), List.getElem?_eq_getElem _⟩
              obtain ⟨cs1, t1, f1, hb1, z0, z1, z2, z3, z4⟩ := slt_all HL.out HCQ.out (by simp) hjl hy
              have v1 : (j : Int) < (q : Int) := by omega
              have v0 : (0 : Int) ≤ (j : Int) := by omega
              have v2 : (q : Int) ≤ 64 := by omega
              have hwl : wayN (ys.take j) ≤ 64 := by unfold wayN; have := List.countP_le_length (p := wayB) (l := ys.take j); rw [List.length_take] at this; omega
              have hsu : wayN (ys.take (j + 1)) = wayN (ys.take j) + way1 y.st := by
                unfold wayN
                rw [List.take_succ_eq_append_getElem (by rw [← HQ.out]; exact hjl : j < ys.length), List.countP_append, show ys[j]'(by rw [← HQ.out]; exact hjl) = y from (List.getElem?_eq_some_iff.1 hy).2]
                unfold way1 wayB
                by_cases h3 : 3 < y.st <;> simp [h3]
              have HSU := Lib.hid hsu
              obtain ⟨p, hp⟩ : ∃ p, p = wayN (ys.take j) := ⟨_, rfl⟩
              rw [← hp] at hwl ⊢
              have HPP := Lib.hid hp
              clear hsu hy hp
              cases h3 : decide (3 < y.st)
              · go_wp2_with fail
                go_roundw
                case rel =>
                  refine ⟨j + 1, by omega, by go_num, ?_, HCQ.out⟩
                  rw [HSU.out, ← HPP.out, way1_rest (by simpa using h3)]; rfl
                case measure => simp [intOf]; omega
              · go_wp2_with fail
                go_roundw
                case rel =>
                  refine ⟨j + 1, by omega, by go_num, ?_, HCQ.out⟩
                  rw [HSU.out, ← HPP.out, way1_way (by simpa using h3)]; go_num
                case measure => simp [intOf]; omega
            · obtain rfl : j = q := by omega
              have hfull : wayN (ys.take j) = wayN s'.1 := by rw [HQ.out, List.take_length]; exact HW.out
              rw [hfull]
              replace H := Lib.hid (H.out.keep HCQ.out)
              have hidl := idle_way H.out.sane
              clear hfull
              have hm2 : wayN s'.1 = 0 ∨ wayN s'.1 = 1 := by omega
              rcases hm2 with hm | hm
              · rw [hm]
                have hiv : idleB s'.1 = true := by rw [hidl, hm]; rfl
                go_wp2_with fail
                refine (gidle_at true hiv _ H.out).mono ?_
                rintro e w9 ⟨rfl, c9⟩
                go_wp2_with fail
                go_roundw
                case rel => exact ⟨k + 1, s', by omega, by go_num, H.out.keep c9, by omega, by omega⟩
                case measure => simp [intOf]; omega
              · rw [hm]
                have hiv : idleB s'.1 = false := by rw [hidl, hm]; rfl
                go_wp2_with fail
                refine (gidle_at false hiv _ H.out).mono ?_
                rintro e w9 ⟨rfl, c9⟩
                go_wp2_with fail
                go_roundw
                case rel => exact ⟨k + 1, s', by omega, by go_num, H.out.keep c9, by omega, by omega⟩
                case measure => simp [intOf]; omega
        · obtain ⟨hi1, hw1⟩ := hon hn
          clear hle
          rw [hn]
          go_wp2_with fail
          refine (gslots_any w5 H.out).mono ?_
          rintro e w6 ⟨AS, cS, rfl, hsl, c6⟩
          have HL := Lib.hid hsl
          replace H := Lib.hid (H.out.keep c6)
          clear hsl c6
          obtain ⟨ys, hys⟩ : ∃ ys, ys = live s'.1 := ⟨_, rfl⟩
          have hy64 : ys.length ≤ 64 := by rw [hys]; exact Nat.le_trans (live_le _) H.out.good.len64
          have hwy : wayN ys = wayN s'.1 := by rw [hys]; exact way_live _
          rw [← hys] at HL ⊢
          obtain ⟨q, hq⟩ : ∃ q, q = ys.length := ⟨_, rfl⟩
          rw [← hq] at HL hy64 ⊢
          have HQ := Lib.hid hq
          have HW := Lib.hid hwy
          clear hq hwy hys
          go_wp2_with fail
          go_loopw [14, 15] (fun c i wq => ∃ j : Nat, j ≤ q ∧ i = .int .i64 j ∧ c = .int .i64 (wayN (ys.take j) : Nat) ∧ Chg [] w6 wq) (fun _ i _ => q - (intOf i).toNat)
          case atStart => exact ⟨0, by omega, rfl, rfl, Chg.refl _ _⟩
          case round =>
            obtain ⟨j, hj, rfl, rfl, hcq⟩ := hrel
            have HCQ := Lib.hid hcq
            clear hcq
            by_cases hjl : j < q
            · obtain ⟨b1, o1, rfl⟩ := HL.out.addr (by omega)
              obtain ⟨y, hy⟩ : ∃ y, ys[j]? = some y := ⟨ys[j]'(by rw [← HQ.out]; exact hjl), List.getElem?_eq_getElem _⟩
              obtain ⟨cs1, t1, f1, hb1, z0, z1, z2, z3, z4⟩ := slt_all HL.out HCQ.out (by simp) hjl hy
              have v1 : (j : Int) < (q : Int) := by omega
              have v0 : (0 : Int) ≤ (j : Int) := by omega
              have v2 : (q : Int) ≤ 64 := by omega
              have hwl : wayN (ys.take j) ≤ 64 := by unfold wayN; have := List.countP_le_length (p := wayB) (l := ys.take j); rw [List.length_take] at this; omega
              have hsu : wayN (ys.take (j + 1)) = wayN (ys.take j) + way1 y.st := by
                unfold wayN
                rw [List.take_succ_eq_append_getElem (by rw [← HQ.out]; exact hjl : j < ys.length), List.countP_append, show ys[j]'(by rw [← HQ.out]; exact hjl) = y from (List.getElem?_eq_some_iff.1 hy).2]
                unfold way1 wayB
                by_cases h3 : 3 < y.st <;> simp [h3]
              have HSU := Lib.hid hsu
              obtain ⟨p, hp⟩ : ∃ p, p = wayN (ys.take j) := ⟨_, rfl⟩
              rw [← hp] at hwl ⊢
              have HPP := Lib.hid hp
              clear hsu hy hp
              cases h3 : decide (3 < y.st)
              · go_wp2_with fail
                go_roundw
                case rel =>
                  refine ⟨j + 1, by omega, by go_num, ?_, HCQ.out⟩
                  rw [HSU.out, ← HPP.out, way1_rest (by simpa using h3)]; rfl
                case measure => simp [intOf]; omega
              · go_wp2_with fail
                go_roundw
                case rel =>
                  refine ⟨j + 1, by omega, by go_num, ?_, HCQ.out⟩
                  rw [HSU.out, ← HPP.out, way1_way (by simpa using h3)]; go_num
                case measure => simp [intOf]; omega
            · obtain rfl : j = q := by omega
              have hfull : wayN (ys.take j) = wayN s'.1 := by rw [HQ.out, List.take_length]; exact HW.out
              rw [hfull]
              replace H := Lib.hid (H.out.keep HCQ.out)
              have hidl := idle_way H.out.sane
              clear hfull
              have hm : wayN s'.1 = 1 := hw1
              rw [hm]
              have hiv : idleB s'.1 = false := by rw [hidl, hm]; rfl
              go_wp2_with fail
              refine (gidle_at false hiv _ H.out).mono ?_
              rintro e w9 ⟨rfl, c9⟩
              go_wp2_with fail
              go_roundw
              case rel => exact ⟨k + 1, s', by omega, by go_num, H.out.keep c9, by omega, by omega⟩
              case measure => simp [intOf]; omega
      · skip
        have k0 : (x.kd == 0) = false := by simp; omega
        have k1 : (x.kd == 1) = false := by simp; omega
        have k2 : (x.kd == 2) = false := by simp; omega
        have k3 : (x.kd == 3) = false := by simp; omega
        have k4 : (x.kd == 4) = true := by simp; omega
        clear hkd
        refine (gidle_any w2 H.out).mono ?_
        rintro e w3 ⟨rfl, c3⟩
        replace H := Lib.hid (H.out.keep c3)
        replace rX := c3.keep rX List.not_mem_nil
        clear c3
        go_wp2_with fail
        have hc := greach_any x.li w3 H.out (by omega)
        have hone := reachF_one H.out.good H.out.sane x.li
        have huu : s.2 ≤ (reachF S M s x.li).1.2 ∧ (reachF S M s x.li).1.2 ≤ s.2 + 1 := reachF_u
        generalize reachF S M s x.li = r at hc hone huu
        obtain ⟨hle, hon, hwa⟩ := hone
        refine hc.mono ?_
        clear hc
        rintro e w5 ⟨A1, n1, rfl, h1, h2, h3⟩
        obtain ⟨s', hs'⟩ : ∃ s', s' = r.1 := ⟨_, rfl⟩
        rw [← hs'] at h2 hon hwa huu
        replace H := Lib.hid h2
        have hw' : wayN s'.1 ≤ 1 := hwa hw
        have hu' : s'.2 ≤ s.2 + 1 := huu.2
        clear h1 h2 h3 hwa huu hs'
        have hlen : (r.2).length = 0 ∨ (r.2).length = 1 := by omega
        rcases hlen with hn | hn
        · clear hon hle
          rw [hn]
          go_wp2_with fail
          refine (gslots_any w5 H.out).mono ?_
          rintro e w6 ⟨AS, cS, rfl, hsl, c6⟩
          have HL := Lib.hid hsl
          replace H := Lib.hid (H.out.keep c6)
          clear hsl c6
          obtain ⟨ys, hys⟩ : ∃ ys, ys = live s'.1 := ⟨_, rfl⟩
          have hy64 : ys.length ≤ 64 := by rw [hys]; exact Nat.le_trans (live_le _) H.out.good.len64
          have hwy : wayN ys = wayN s'.1 := by rw [hys]; exact way_live _
          rw [← hys] at HL ⊢
          obtain ⟨q, hq⟩ : ∃ q, q = ys.length := ⟨_, rfl⟩
          rw [← hq] at HL hy64 ⊢
          have HQ := Lib.hid hq
          have HW := Lib.hid hwy
          clear hq hwy hys
          go_wp2_with fail
          go_loopw [14, 15] (fun c i wq => ∃ j : Nat, j ≤ q ∧ i = .int .i64 j ∧ c = .int .i64 (wayN (ys.take j) : Nat) ∧ Chg [] w6 wq) (fun _ i _ => q - (intOf i).toNat)
          case atStart => exact ⟨0, by omega, rfl, rfl, Chg.refl _ _⟩
          case round =>
            obtain ⟨j, hj, rfl, rfl, hcq⟩ := hrel
            have HCQ := Lib.hid hcq
            clear hcq
            by_cases hjl : j < q
            · obtain ⟨b1, o1, rfl⟩ := HL.out.addr (by omega)
              obtain ⟨y, hy⟩ : ∃ y, ys[j]? = some y := ⟨ys[j]'(by rw [← HQ.out]; exact hjl), List.getElem?_eq_getElem _⟩
              obtain ⟨cs1, t1, f1, hb1, z0, z1, z2, z3, z4⟩ := slt_all HL.out HCQ.out (by simp) hjl hy
              have v1 : (j : Int) < (q : Int) := by omega
              have v0 : (0 : Int) ≤ (j : Int) := by omega
              have v2 : (q : Int) ≤ 64 := by omega
              have hwl : wayN (ys.take j) ≤ 64 := by unfold wayN; have := List.countP_le_length (p := wayB) (l := ys.take j); rw [List.length_take] at this; omega
              have hsu : wayN (ys.take (j + 1)) = wayN (ys.take j) + way1 y.st := by
                unfold wayN
                rw [List.take_succ_eq_append_getElem (by rw [← HQ.out]; exact hjl : j < ys.length), List.countP_append, show ys[j]'(by rw [← HQ.out]; exact hjl) = y from (List.getElem?_eq_some_iff.1 hy).2]
                unfold way1 wayB
                by_cases h3 : 3 < y.st <;> simp [h3]
              have HSU := Lib.hid hsu
              obtain ⟨p, hp⟩ : ∃ p, p = wayN (ys.take j) := ⟨_, rfl⟩
              rw [← hp] at hwl ⊢
              have HPP := Lib.hid hp
              clear hsu hy hp
              cases h3 : decide (3 < y.st)
              · go_wp2_with fail
                go_roundw
                case rel =>
                  refine ⟨j + 1, by omega, by go_num, ?_, HCQ.out⟩
                  rw [HSU.out, ← HPP.out, way1_rest (by simpa using h3)]; rfl
                case measure => simp [intOf]; omega
              · go_wp2_with fail
                go_roundw
                case rel =>
                  refine ⟨j + 1, by omega, by go_num, ?_, HCQ.out⟩
                  rw [HSU.out, ← HPP.out, way1_way (by simpa using h3)]; go_num
                case measure => simp [intOf]; omega
            · obtain rfl : j = q := by omega
              have hfull : wayN (ys.take j) = wayN s'.1 := by rw [HQ.out, List.take_length]; exact HW.out
              rw [hfull]
              replace H := Lib.hid (H.out.keep HCQ.out)
              have hidl := idle_way H.out.sane
              clear hfull
              have hm2 : wayN s'.1 = 0 ∨ wayN s'.1 = 1 := by omega
              rcases hm2 with hm | hm
              · rw [hm]
                have hiv : idleB s'.1 = true := by rw [hidl, hm]; rfl
                go_wp2_with fail
                refine (gidle_at true hiv _ H.out).mono ?_
                rintro e w9 ⟨rfl, c9⟩
                go_wp2_with fail
                go_roundw
                case rel => exact ⟨k + 1, s', by omega, by go_num, H.out.keep c9, by omega, by omega⟩
                case measure => simp [intOf]; omega
              · rw [hm]
                have hiv : idleB s'.1 = false := by rw [hidl, hm]; rfl
                go_wp2_with fail
                refine (gidle_at false hiv _ H.out).mono ?_
                rintro e w9 ⟨rfl, c9⟩
                go_wp2_with fail
                go_roundw
                case rel => exact ⟨k + 1, s', by omega, by go_num, H.out.keep c9, by omega, by omega⟩
                case measure => simp [intOf]; omega
        · obtain ⟨hi1, hw1⟩ := hon hn
          clear hle
          rw [hn]
          go_wp2_with fail
          refine (gslots_any w5 H.out).mono ?_
          rintro e w6 ⟨AS, cS, rfl, hsl, c6⟩
          have HL := Lib.hid hsl
          replace H := Lib.hid (H.out.keep c6)
          clear hsl c6
          obtain ⟨ys, hys⟩ : ∃ ys, ys = live s'.1 := ⟨_, rfl⟩
          have hy64 : ys.length ≤ 64 := by rw [hys]; exact Nat.le_trans (live_le _) H.out.good.len64
          have hwy : wayN ys = wayN s'.1 := by rw [hys]; exact way_live _
          rw [← hys] at HL ⊢
          obtain ⟨q, hq⟩ : ∃ q, q = ys.length := ⟨_, rfl⟩
          rw [← hq] at HL hy64 ⊢
          have HQ := Lib.hid hq
          have HW := Lib.hid hwy
          clear hq hwy hys
          go_wp2_with fail
          go_loopw [14, 15] (fun c i wq => ∃ j : Nat, j ≤ q ∧ i = .int .i64 j ∧ c = .int .i64 (wayN (ys.take j) : Nat) ∧ Chg [] w6 wq) (fun _ i _ => q - (intOf i).toNat)
          case atStart => exact ⟨0, by omega, rfl, rfl, Chg.refl _ _⟩
          case round =>
            obtain ⟨j, hj, rfl, rfl, hcq⟩ := hrel
            have HCQ := Lib.hid hcq
            clear hcq
            by_cases hjl : j < q
            · obtain ⟨b1, o1, rfl⟩ := HL.out.addr (by omega)
              obtain ⟨y, hy⟩ : ∃ y, ys[j]? = some y := ⟨ys[j]'(by rw [← HQ.out]; exact hjl), List.getElem?_eq_getElem _⟩
              obtain ⟨cs1, t1, f1, hb1, z0, z1, z2, z3, z4⟩ := slt_all HL.out HCQ.out (by simp) hjl hy
              have v1 : (j : Int) < (q : Int) := by omega
              have v0 : (0 : Int) ≤ (j : Int) := by omega
              have v2 : (q : Int) ≤ 64 := by omega
              have hwl : wayN (ys.take j) ≤ 64 := by unfold wayN; have := List.countP_le_length (p := wayB) (l := ys.take j); rw [List.length_take] at this; omega
              have hsu : wayN (ys.take (j + 1)) = wayN (ys.take j) + way1 y.st := by
                unfold wayN
                rw [List.take_succ_eq_append_getElem (by rw [← HQ.out]; exact hjl : j < ys.length), List.countP_append, show ys[j]'(by rw [← HQ.out]; exact hjl) = y from (List.getElem?_eq_some_iff.1 hy).2]
                unfold way1 wayB
                by_cases h3 : 3 < y.st <;> simp [h3]
              have HSU := Lib.hid hsu
              obtain ⟨p, hp⟩ : ∃ p, p = wayN (ys.take j) := ⟨_, rfl⟩
              rw [← hp] at hwl ⊢
              have HPP := Lib.hid hp
              clear hsu hy hp
              cases h3 : decide (3 < y.st)
              · go_wp2_with fail
                go_roundw
                case rel =>
                  refine ⟨j + 1, by omega, by go_num, ?_, HCQ.out⟩
                  rw [HSU.out, ← HPP.out, way1_rest (by simpa using h3)]; rfl
                case measure => simp [intOf]; omega
              · go_wp2_with fail
                go_roundw
                case rel =>
                  refine ⟨j + 1, by omega, by go_num, ?_, HCQ.out⟩
                  rw [HSU.out, ← HPP.out, way1_way (by simpa using h3)]; go_num
                case measure => simp [intOf]; omega
            · obtain rfl : j = q := by omega
              have hfull : wayN (ys.take j) = wayN s'.1 := by rw [HQ.out, List.take_length]; exact HW.out
              rw [hfull]
              replace H := Lib.hid (H.out.keep HCQ.out)
              have hidl := idle_way H.out.sane
              clear hfull
              have hm : wayN s'.1 = 1 := hw1
              rw [hm]
              have hiv : idleB s'.1 = false := by rw [hidl, hm]; rfl
              go_wp2_with fail
              refine (gidle_at false hiv _ H.out).mono ?_
              rintro e w9 ⟨rfl, c9⟩
              go_wp2_with fail
              go_roundw
              case rel => exact ⟨k + 1, s', by omega, by go_num, H.out.keep c9, by omega, by omega⟩
              case measure => simp [intOf]; omega
      · skip
        have k0 : (x.kd == 0) = false := by simp; omega
        have k1 : (x.kd == 1) = false := by simp; omega
        have k2 : (x.kd == 2) = false := by simp; omega
        have k3 : (x.kd == 3) = false := by simp; omega
        have k4 : (x.kd == 4) = false := by simp; omega
        clear hkd
        refine (gidle_any w2 H.out).mono ?_
        rintro e w3 ⟨rfl, c3⟩
        replace H := Lib.hid (H.out.keep c3)
        replace rX := c3.keep rX List.not_mem_nil
        clear c3
        obtain ⟨s', hs'⟩ : ∃ s', s' = s := ⟨s, rfl⟩
        have hw' : wayN s'.1 ≤ 1 := by rw [hs']; exact hw
        have hu' : s'.2 ≤ s.2 + 1 := by rw [hs']; omega
        replace H := Lib.hid (show Agt W w3 g a b S M s' from by rw [hs']; exact H.out)
        clear hs'
        generalize hw5 : w3 = w5 at *
        clear hw5
        go_wp2_with fail
        refine (gslots_any w5 H.out).mono ?_
        rintro e w6 ⟨AS, cS, rfl, hsl, c6⟩
        have HL := Lib.hid hsl
        replace H := Lib.hid (H.out.keep c6)
        clear hsl c6
        obtain ⟨ys, hys⟩ : ∃ ys, ys = live s'.1 := ⟨_, rfl⟩
        have hy64 : ys.length ≤ 64 := by rw [hys]; exact Nat.le_trans (live_le _) H.out.good.len64
        have hwy : wayN ys = wayN s'.1 := by rw [hys]; exact way_live _
        rw [← hys] at HL ⊢
        obtain ⟨q, hq⟩ : ∃ q, q = ys.length := ⟨_, rfl⟩
        rw [← hq] at HL hy64 ⊢
        have HQ := Lib.hid hq
        have HW := Lib.hid hwy
        clear hq hwy hys
        go_wp2_with fail
        go_loopw [14, 15] (fun c i wq => ∃ j : Nat, j ≤ q ∧ i = .int .i64 j ∧ c = .int .i64 (wayN (ys.take j) : Nat) ∧ Chg [] w6 wq) (fun _ i _ => q - (intOf i).toNat)
        case atStart => exact ⟨0, by omega, rfl, rfl, Chg.refl _ _⟩
        case round =>
          obtain ⟨j, hj, rfl, rfl, hcq⟩ := hrel
          have HCQ := Lib.hid hcq
          clear hcq
          by_cases hjl : j < q
          · obtain ⟨b1, o1, rfl⟩ := HL.out.addr (by omega)
            obtain ⟨y, hy⟩ : ∃ y, ys[j]? = some y := ⟨ys[j]'(by rw [← HQ.out]; exact hjl), List.getElem?_eq_getElem _⟩
            obtain ⟨cs1, t1, f1, hb1, z0, z1, z2, z3, z4⟩ := slt_all HL.out HCQ.out (by simp) hjl hy
            have v1 : (j : Int) < (q : Int) := by omega
            have v0 : (0 : Int) ≤ (j : Int) := by omega
            have v2 : (q : Int) ≤ 64 := by omega
            have hwl : wayN (ys.take j) ≤ 64 := by unfold wayN; have := List.countP_le_length (p := wayB) (l := ys.take j); rw [List.length_take] at this; omega
            have hsu : wayN (ys.take (j + 1)) = wayN (ys.take j) + way1 y.st := by
              unfold wayN
              rw [List.take_succ_eq_append_getElem (by rw [← HQ.out]; exact hjl : j < ys.length), List.countP_append, show ys[j]'(by rw [← HQ.out]; exact hjl) = y from (List.getElem?_eq_some_iff.1 hy).2]
              unfold way1 wayB
              by_cases h3 : 3 < y.st <;> simp [h3]
            have HSU := Lib.hid hsu
            obtain ⟨p, hp⟩ : ∃ p, p = wayN (ys.take j) := ⟨_, rfl⟩
            rw [← hp] at hwl ⊢
            have HPP := Lib.hid hp
            clear hsu hy hp
            cases h3 : decide (3 < y.st)
            · go_wp2_with fail
              go_roundw
              case rel =>
                refine ⟨j + 1, by omega, by go_num, ?_, HCQ.out⟩
                rw [HSU.out, ← HPP.out, way1_rest (by simpa using h3)]; rfl
              case measure => simp [intOf]; omega
            · go_wp2_with fail
              go_roundw
              case rel =>
                refine ⟨j + 1, by omega, by go_num, ?_, HCQ.out⟩
                rw [HSU.out, ← HPP.out, way1_way (by simpa using h3)]; go_num
              case measure => simp [intOf]; omega
          · obtain rfl : j = q := by omega
            have hfull : wayN (ys.take j) = wayN s'.1 := by rw [HQ.out, List.take_length]; exact HW.out
            rw [hfull]
            replace H := Lib.hid (H.out.keep HCQ.out)
            have hidl := idle_way H.out.sane
            clear hfull
            have hm2 : wayN s'.1 = 0 ∨ wayN s'.1 = 1 := by omega
            rcases hm2 with hm | hm
            · rw [hm]
              have hiv : idleB s'.1 = true := by rw [hidl, hm]; rfl
              go_wp2_with fail
              refine (gidle_at true hiv _ H.out).mono ?_
              rintro e w9 ⟨rfl, c9⟩
              go_wp2_with fail
              go_roundw
              case rel => exact ⟨k + 1, s', by omega, by go_num, H.out.keep c9, by omega, by omega⟩
              case measure => simp [intOf]; omega
            · rw [hm]
              have hiv : idleB s'.1 = false := by rw [hidl, hm]; rfl
              go_wp2_with fail
              refine (gidle_at false hiv _ H.out).mono ?_
              rintro e w9 ⟨rfl, c9⟩
              go_wp2_with fail
              go_roundw
              case rel => exact ⟨k + 1, s', by omega, by go_num, H.out.keep c9, by omega, by omega⟩
              case measure => simp [intOf]; omega
    · obtain rfl : k = N := by omega
      go_wp2_with fail
      refine (awakes wr ⟨HT.out.1.keep H.out.1.1 (by simp), HT.out.2.keep H.out.1.1 (by simp)⟩).mono ?_
      rintro e w2 ⟨rfl, c2⟩
      go_wp2_with fail
      go_ret
      exact ⟨rfl, H.out.1.1.trans c2⟩
end Go.Proofs.YtakjbgnnajdloaaDoor
