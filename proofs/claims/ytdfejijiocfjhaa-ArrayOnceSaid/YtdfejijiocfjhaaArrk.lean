/- ArrayKeeps: what stays. No condition. -/
import Derived.Test.YtdfejijiocfjhaaArrx
namespace Go.Proofs.Ytdfejijiocfjhaa
open Go.RowKit
set_option linter.unusedVariables false
set_option maxHeartbeats 1000000
attribute [local go_sem ↓] append_appS copy_copS clear_clrS make_mkS cell_row frozen_row loadLine storeLine loadSlot storeSlot heap_drew heap_drewN heap_alloc heap_past heap_setCell heap_putRow vs_get slc_st slc_li slc_us
attribute [local go_sem] rowCell_some rowFrozen_some rowHas_some rowIn_some rowPart_full rowPart_lit rowPut_full rowPut_lit rowSet_some size_putRow vs_size vs_one wideLine wideSlot run_loadS run_storeS run_appS run_copS run_clrS run_mkS loadW_at storeW_at fit_all fit_le one_int one_bool one_pointer one_slice allOne_list putRow_new ne_size1 ne_size2 ne_size3 ne_size4 zero8_length line_eq lit8 slc_size slc_one slc_part slc_in fold_slt fold_slc slc_set_us
attribute [local simp ↓] heap_drew heap_drewN heap_alloc heap_past heap_setCell heap_putRow
attribute [local simp] rowCell_some rowFrozen_some rowHas_some rowIn_some rowPart_full rowPart_lit rowPut_full rowPut_lit rowSet_some size_putRow vs_size fit_all putRow_new ne_size1 ne_size2 ne_size3 ne_size4 zero8_length slc_size


attribute [local go_sem ↓] loadAStep storeAStep
attribute [local go_sem] wideAStep
/-! ### ArrayKeeps -/
/-- Four sets of two ways: the third slot has line 5; all others are of other sets, and at rest. -/
structure KeepAt (l : List Int) (hl : l.length = 8) (xs : List Slt) : Prop where
  good : Good 4 2 xs
  at2 : xs[2]? = some ⟨3, 5, l, 1, hl⟩
  rest : ∀ x ∈ xs, x.st ≠ 0 → x.st = 1 ∨ x.st = 3
theorem KeepAt.find {l : List Int} {hl : l.length = 8} {xs : List Slt} (h : KeepAt l hl xs) : findVal xs 5 = ⟨3, 5, l, 1, hl⟩ ∧ dropVal xs 5 = true := by
  have hx := h.at2
  have hi : xs.findIdx (pLine 5) = 2 := by
    refine findIdx_hit hx (by simp [pLine]) ?_
    intro x hm
    obtain ⟨j, hj, rfl⟩ := List.mem_take_iff_getElem.1 hm
    have hjx : xs[j]? = some xs[j] := List.getElem?_eq_getElem (by omega)
    by_cases h0 : (xs[j]).st = 0
    · simp [pLine, h0]
    · have := h.good.home j _ hjx h0
      have h2 : setOf 4 5 = 1 := rfl
      have hne : (xs[j]).li ≠ 5 := by
        intro e
        rw [e, h2] at this
        omega
      simp [pLine, hne]
  unfold findVal dropVal
  rw [hi, hx]
  have := (List.getElem?_eq_some_iff.1 hx).1
  simpa using this
/-- What a line of another set does leaves the slot as it was. -/
theorem other_set {S W : Nat} {xs : List Slt} (h : Good S W xs) {li : Int} (h0 : 0 ≤ li) (hp : place S W xs li < xs.length) : place S W xs li / W = setOf S li := by
  unfold place at *
  rcases h.where li with ⟨k, y, e1, e2, e3, e4, e5, e6, e7, e8, e9, e10⟩ | ⟨e1, e2, e3, e4⟩
  · rw [if_pos (by omega), e2]; exact div_of e3 rfl
  · rw [if_neg (by omega)] at hp ⊢
    split at hp
    · rename_i h2
      rw [if_pos h2]; exact div_of h2 rfl
    · omega
theorem KeepAt.set {l : List Int} {hl : l.length = 8} {xs : List Slt} (h : KeepAt l hl xs) (u : Int) (n : Nat) (hn : n % 4 ≠ 1) (m : List Int) (hm : m.length = 8) : KeepAt l hl (setXs 4 2 xs u (n : Int) 1 m hm) := by
  refine ⟨h.good.setXs _ _ _ _ _, ?_, ?_⟩
  · unfold setXs
    rw [if_neg (by unfold badSet; omega), List.getElem?_set]
    split
    · rename_i e
      have h2 : 2 < xs.length := (List.getElem?_eq_some_iff.1 h.at2).1
      have h3 := other_set h.good (li := (n : Int)) (by omega) (by omega)
      rw [e] at h3
      have : setOf 4 (n : Int) = n % 4 := by unfold setOf; rw [Int.toNat_natCast]
      omega
    · exact h.at2
  · unfold setXs
    rw [if_neg (by unfold badSet; omega)]
    intro x hx h0
    rcases List.mem_or_eq_of_mem_set hx with h1 | h1
    · exact h.rest x h1 h0
    · rw [h1]; exact .inl rfl
theorem eldS_pick (ys : List Slt) (hp : ∀ y ∈ ys, atRest y.st = true → 0 ≤ y.li) : (eldS ys = (-1, 0) ∧ ∀ y ∈ ys, atRest y.st = false) ∨ ∃ y ∈ ys, atRest y.st = true ∧ eldS ys = (y.li, y.us) ∧ ∀ z ∈ ys, atRest z.st = true → y.us ≤ z.us := by
  suffices H : ∀ k, k ≤ ys.length → (eldS (ys.take k) = (-1, 0) ∧ ∀ y ∈ ys.take k, atRest y.st = false) ∨ ∃ y ∈ ys.take k, atRest y.st = true ∧ eldS (ys.take k) = (y.li, y.us) ∧ ∀ z ∈ ys.take k, atRest z.st = true → y.us ≤ z.us by
    have := H ys.length (Nat.le_refl _)
    rwa [List.take_length] at this
  intro k
  induction k with
  | zero => intro _; exact .inl ⟨rfl, by simp⟩
  | succ k ih =>
    intro hk
    have hy : ys[k]? = some ys[k] := List.getElem?_eq_getElem (by omega)
    have hmem : ys[k] ∈ ys := List.getElem_mem (by omega)
    have htk : ys.take (k + 1) = ys.take k ++ [ys[k]] := List.take_succ_eq_append_getElem (by omega)
    rw [eldS_take hy, htk]
    generalize ys[k] = y at hy hmem
    by_cases hr : atRest y.st = true
    · rcases ih (by omega) with ⟨e1, e2⟩ | ⟨z, z1, z2, z3, z4⟩
      · refine .inr ⟨y, by simp, hr, by rw [e1]; unfold eldStep; rw [hr]; rfl, ?_⟩
        intro z hz hzr
        rcases List.mem_append.1 hz with hz | hz
        · rw [e2 z hz] at hzr; cases hzr
        · rw [List.mem_singleton.1 hz]; exact Int.le_refl _
      · have hz0 := hp z (List.mem_of_mem_take z1) z2
        by_cases hu : y.us < z.us
        · refine .inr ⟨y, by simp, hr, by rw [z3]; unfold eldStep; rw [hr, if_pos (by simp [hu])], ?_⟩
          intro t ht htr
          rcases List.mem_append.1 ht with ht | ht
          · have := z4 t ht htr; omega
          · rw [List.mem_singleton.1 ht]; exact Int.le_refl _
        · refine .inr ⟨z, by simp [z1], z2, by rw [z3]; unfold eldStep; rw [hr, if_neg (by simp; omega)], ?_⟩
          intro t ht htr
          rcases List.mem_append.1 ht with ht | ht
          · exact z4 t ht htr
          · rw [List.mem_singleton.1 ht]; omega
    · have hr : atRest y.st = false := by simpa using hr
      have e0 : eldStep (eldS (ys.take k)) y = eldS (ys.take k) := by unfold eldStep; rw [hr]; rfl
      rw [e0]
      rcases ih (by omega) with ⟨e1, e2⟩ | ⟨z, z1, z2, z3, z4⟩
      · refine .inl ⟨e1, ?_⟩
        intro z hz
        rcases List.mem_append.1 hz with hz | hz
        · exact e2 z hz
        · rw [List.mem_singleton.1 hz]; exact hr
      · refine .inr ⟨z, by simp [z1], z2, z3, ?_⟩
        intro t ht htr
        rcases List.mem_append.1 ht with ht | ht
        · exact z4 t ht htr
        · rw [List.mem_singleton.1 ht, hr] at htr; cases htr
/-- A slot of a set, by its place among all. -/
theorem seg_mem {S W : Nat} {xs : List Slt} (h : Good S W xs) {t : Nat} (ht : t < S) {y : Slt} (hy : y ∈ seg W xs t) : ∃ i, xs[i]? = some y ∧ i / W = t := by
  obtain ⟨k, hk, rfl⟩ := List.getElem_of_mem hy
  have hl := seg_length h.len ht
  have h1 : (seg W xs t)[k]? = some (seg W xs t)[k] := List.getElem?_eq_getElem hk
  rw [seg_get _ _ _ (by omega)] at h1
  exact ⟨_, h1, div_of (by omega) rfl⟩
theorem mem_seg {S W : Nat} {xs : List Slt} (h : Good S W xs) {i : Nat} {y : Slt} (hy : xs[i]? = some y) : y ∈ seg W xs (i / W) := by
  have hw := h.way1
  have hi : i % W < W := Nat.mod_lt _ (by omega)
  have he : i / W * W + i % W = i := by rw [Nat.mul_comm]; exact Nat.div_add_mod i W
  have h1 : (seg W xs (i / W))[i % W]? = some y := by rw [seg_get _ _ _ hi, he, hy]
  exact List.mem_of_getElem? h1
theorem KeepAt.room {l : List Int} {hl : l.length = 8} {xs : List Slt} (h : KeepAt l hl xs) (n : Nat) (hv : setVal 4 2 xs (n : Int) 1 = 13) : 0 ≤ roomVic 4 2 xs n ∧ roomVic 4 2 xs n % 4 = (n : Int) % 4 ∧ dropVal xs (roomVic 4 2 xs n) = true := by
  have hb : ¬ badSet (n : Int) 1 := by unfold badSet; omega
  have hp : ¬ place 4 2 xs n < xs.length := by
    intro hp
    unfold setVal at hv
    rw [if_neg hb, if_pos hp] at hv
    cases hv
  have hs : setOf 4 (n : Int) = n % 4 := by unfold setOf; rw [Int.toNat_natCast]
  rcases h.good.room (n : Int) with ⟨k, y, d1, hk, hy, hst, d3, d4, _⟩ | ⟨d1, d2, d3⟩
  · exfalso
    apply hp
    unfold place
    split
    · assumption
    · rw [d1, if_pos hk]; exact d4
  · have hvic : roomVic 4 2 xs n = eld (seg 2 xs (setOf 4 n)) := by unfold roomVic; rw [if_neg (by omega), d2, if_neg (by omega)]
    rw [hvic]
    have hset := h.good.set_lt (n : Int)
    have hpos : ∀ y ∈ seg 2 xs (setOf 4 (n : Int)), atRest y.st = true → 0 ≤ y.li := by
      intro y hy hr
      obtain ⟨i, hi, _⟩ := seg_mem h.good hset hy
      exact (h.good.home i y hi (d3 y hy)).1
    rcases eldS_pick _ hpos with ⟨e1, e2⟩ | ⟨y, y1, y2, y3, y4⟩
    · exfalso
      have hlen := h.good.seg_len (n : Int)
      obtain ⟨y, hy⟩ : ∃ y, y ∈ seg 2 xs (setOf 4 (n : Int)) := List.exists_mem_of_length_pos (by omega)
      have h1 := e2 y hy
      obtain ⟨i, hi, _⟩ := seg_mem h.good hset hy
      rcases h.rest y (List.mem_of_getElem? hi) (d3 y hy) with h2 | h2 <;> rw [h2] at h1 <;> cases h1
    · unfold eld
      rw [y3]
      obtain ⟨i, hi, hd⟩ := seg_mem h.good hset y1
      obtain ⟨p1, p2⟩ := h.good.home i y hi (d3 y y1)
      refine ⟨p1, ?_, ?_⟩
      · have h1 : setOf 4 y.li = setOf 4 (n : Int) := by rw [← p2, hd]
        unfold setOf at h1
        show y.li % 4 = _
        omega
      · unfold dropVal
        have : xs.findIdx (pLine y.li) < xs.length := List.findIdx_lt_length_of_exists ⟨y, List.mem_of_getElem? hi, by simp [pLine, d3 y y1]⟩
        simpa using this
theorem KeepAt.drop {l : List Int} {hl : l.length = 8} {xs : List Slt} (h : KeepAt l hl xs) (v : Int) (hv : 0 ≤ v) (h4 : v % 4 ≠ 1) : KeepAt l hl (dropXs xs v) := by
  refine ⟨h.good.dropXs v, ?_, ?_⟩
  · unfold dropXs
    rw [List.getElem?_set]
    split
    · rename_i e
      exfalso
      have h2 : 2 < xs.length := (List.getElem?_eq_some_iff.1 h.at2).1
      rcases hit_or (pLine v) xs with ⟨i, y, e1, e2, e3, e4, e5, e6⟩ | ⟨e1, e2, e3⟩
      · have h3 : i = 2 := by omega
        rw [h3, h.at2] at e3
        injection e3 with e3
        have := (pLine_yes e4).2
        rw [← e3] at this
        simp at this
        omega
      · omega
    · exact h.at2
  · intro x hx h0
    unfold dropXs at hx
    rcases List.mem_or_eq_of_mem_set hx with h1 | h1
    · exact h.rest x h1 h0
    · rw [h1] at h0; exact absurd rfl h0
theorem keep_place : place 4 2 (List.replicate (4 * 2) sltZ) 5 = 2 := by decide
theorem keep_first (l : List Int) (hl : l.length = 8) : KeepAt l hl (setXs 4 2 (List.replicate (4 * 2) sltZ) 0 5 3 l hl) ∧ setVal 4 2 (List.replicate (4 * 2) sltZ) 5 3 = 0 ∧ setU 4 2 (List.replicate (4 * 2) sltZ) 0 5 3 = 1 := by
  have hg : Good 4 2 (List.replicate (4 * 2) sltZ) := Good.new (by omega) (by omega) (by omega)
  have hb : ¬ badSet 5 3 := by decide
  refine ⟨⟨hg.setXs _ _ _ _ _, ?_, ?_⟩, by unfold setVal; rw [if_neg hb, keep_place]; rfl, by unfold setU; rw [if_neg hb, keep_place]; rfl⟩
  · unfold setXs
    rw [if_neg hb, keep_place]
    rfl
  · unfold setXs
    rw [if_neg hb, keep_place]
    intro x hx h0
    rcases List.mem_or_eq_of_mem_set hx with h1 | h1
    · rw [List.eq_of_mem_replicate h1] at h0; exact absurd rfl h0
    · rw [h1]; exact .inr rfl
set_option maxRecDepth 100000 in
set_option maxHeartbeats 8000000 in
theorem akeeps_any (l : List Int) (hl : l.length = 8) (A : Option Addr) (N c : Nat) (vals : List Int) (W : World) (hA : Sl W 1 A N (vals.map (Value.int .u8))) (hN : N ≤ maxLen) (hv : ∀ x ∈ vals, 0 ≤ x ∧ x ≤ 255) :
    Calls Try.prog 7 #[.agg (vs l), .slice A N c] W fun e w' => e = .returned (.bool true) ∧ Chg [] W w' := by
  unfold maxLen at hN
  have HA := Lib.hid hA
  have HV := Lib.hid hv
  have LA := Lib.hid (show vals.length = N by simpa using hA.1)
  clear hA hv
  go_enter Try.func7, Try.ntmps7
  go_wp2_with fail
  have hz : (W.alloc (.cells (vs l) 33)).heap[W.heap.size]? = some (.cells (vs l) 33 (0, 0)) := by simp
  have c0 := (Chg.refl [] W).alloc (.cells (vs l) 33)
  have HBX := Lib.hid (show W.heap.size < (W.alloc (.cells (vs l) 33)).heap.size by simp)
  generalize W.alloc (.cells (vs l) 33) = w0 at hz c0 HBX ⊢
  have C0 := Lib.hid c0
  clear c0
  refine (sys_new 4 2 w0 w0 (Chg.refl _ _) (by decide)).mono ?_
  rintro e w1 ⟨a, b, rfl, s1, d1⟩
  have hz1 := d1.keep hz (by simp)
  have oz1 := old hz1
  have S1 := Lib.hid s1
  clear s1 d1 hz
  by_cases hn : 100 < N
  · have t1 : decide (100 < N) = true := by simpa using hn
    go_wp2_with (go_at_call 8; refine (wakes_true _).mono ?_; rintro e w2 ⟨rfl, c2⟩)
    go_ret
    exact ⟨rfl, (C0.out.trans S1.out.1).trans c2⟩
  have t1 : decide (100 < N) = false := by simpa using hn
  have gN : (N : Int) ≤ 100 := by omega
  have HF := Lib.hid (keep_first l hl)
  go_wp2_with fail
  refine (sys_set S1.out (by omega) (by omega) 5 3 l hl).mono ?_
  rintro e w2 ⟨rfl, s2, c2⟩
  rw [HF.out.2.1]
  rw [HF.out.2.2] at s2
  have hz2 := c2.keep hz1 (S1.out.argBlock HBX.out)
  have S2 := Lib.hid s2
  have HZ2 := Lib.hid hz2
  clear s2 c2 hz1 oz1 hz2
  go_wp2_with fail
  go_loopw [7] (fun i wr => ∃ (k : Nat) (xs : List Slt) (u : Int), k ≤ N ∧ i = .int .i64 k ∧ ASys w0 wr a b 4 2 xs u ∧ KeepAt l hl xs ∧ wr.heap[W.heap.size]? = some (.cells (vs l) 33 (0, 0)) ∧ 0 ≤ u ∧ u ≤ k + 1) (fun i _ => N - (intOf i).toNat)
  case atStart => exact ⟨0, _, 1, by omega, rfl, S2.out, HF.out.1, HZ2.out, by omega, by omega⟩
  case round =>
    obtain ⟨k, xs, u, hk, rfl, hs, hka, hzr, u0, uk⟩ := hrel
    have SR := Lib.hid hs
    have KA := Lib.hid hka
    have HZ := Lib.hid hzr
    have u1 : u ≤ 1000000000 := by omega
    clear hs hka hzr
    by_cases hlt : k < N
    · have t2 : decide (k < N) = true := by simpa using hlt
      have g1 : (k : Int) < (N : Int) := by omega
      have g0 : (0 : Int) ≤ (k : Int) := by omega
      obtain ⟨ba, oa, rfl⟩ := HA.out.addr (by omega)
      obtain ⟨cs, t, f, hb, hi⟩ := (HA.out.chg (C0.out.trans SR.out.1) (by simp)).cell hlt
      have hkl : k < vals.length := by rw [LA.out]; exact hlt
      rw [List.getElem?_map, List.getElem?_eq_getElem hkl] at hi
      have hx := HV.out vals[k] (List.getElem_mem hkl)
      generalize vals[k] = x at hi hx
      obtain ⟨x0, x1⟩ := hx
      obtain ⟨m, rfl⟩ := Int.eq_ofNat_of_zero_le x0
      obtain ⟨n, hnm⟩ : ∃ n : Nat, (m : Int) % 40 = (n : Int) := ⟨m % 40, by omega⟩
      have n40 : n < 40 := by omega
      have n0 : (0 : Int) ≤ (n : Int) := by omega
      clear hkl
      by_cases h4 : n % 4 = 1
      · have t3 : ((n : Int) % 4 == 1) = true := by simp; omega
        have t3' : (n % 4 == 1) = true := by simp [h4]
        clear h4
        go_wp2_with fail
        go_roundw
        case rel => exact ⟨k + 1, xs, u, by omega, by go_num, SR.out, KA.out, HZ.out, u0, by omega⟩
        case measure => simp [intOf]; omega
      · have t3 : ((n : Int) % 4 == 1) = false := by simp; omega
        have t3' : (n % 4 == 1) = false := by simp [h4]
        have H4 := Lib.hid h4
        clear h4
        go_wp2_with fail
        refine (sys_set SR.out u0 u1 n 1 [0, 0, 0, 0, 0, 0, 0, 0] rfl).mono ?_
        rintro e w3 ⟨rfl, s3, c3⟩
        have HZ3 := Lib.hid (c3.keep HZ.out (SR.out.argBlock HBX.out))
        have S3 := Lib.hid s3
        have K3 := Lib.hid (KA.out.set u n H4.out [0, 0, 0, 0, 0, 0, 0, 0] rfl)
        have HU := Lib.hid (setU_le (S := 4) (W := 2) (xs := xs) (u := u) (li := (n : Int)) (st := 1))
        clear s3 c3 hb hi
        by_cases hv : setVal 4 2 xs (n : Int) 1 = 13
        · have t4 : (setVal 4 2 xs (n : Int) 1 == 13) = true := by simp [hv]
          have e3 : setXs 4 2 xs u (n : Int) 1 [0, 0, 0, 0, 0, 0, 0, 0] rfl = xs := by
            have hb : ¬ badSet (n : Int) 1 := by unfold badSet; omega
            unfold setVal at hv
            rw [if_neg hb] at hv
            unfold setXs
            rw [if_neg hb]
            split at hv
            · cases hv
            · exact List.set_eq_of_length_le (by omega)
          rw [e3] at S3 K3
          have HR := Lib.hid (KA.out.room n hv)
          obtain ⟨v, hvv⟩ : ∃ v, roomVic 4 2 xs (n : Int) = v := ⟨_, rfl⟩
          rw [hvv] at HR
          have HVV := Lib.hid hvv
          have v0 : 0 ≤ v := HR.out.1
          have t5 : decide (v < 0) = false := by simp; omega
          have t6 : (v % 4 != (n : Int) % 4) = false := by simp [HR.out.2.1]
          have KD := Lib.hid (K3.out.drop v v0 (by rw [HR.out.2.1]; have := H4.out; omega))
          clear hv hvv
          go_wp2_with fail
          refine (aroom_any a b 4 2 xs _ n w3 S3.out.2.1).mono ?_
          rintro e w4 ⟨rfl, c4⟩
          rw [HVV.out]
          have S4 := Lib.hid (S3.out.keep c4)
          have HZ4 := Lib.hid (c4.keep HZ3.out (by simp))
          clear c4
          go_wp2_with fail
          refine (sys_drop S4.out v).mono ?_
          rintro e w5 ⟨rfl, s5, c5⟩
          rw [HR.out.2.2]
          have HZ5 := Lib.hid (c5.keep HZ4.out (S4.out.argBlock HBX.out))
          have S5 := Lib.hid s5
          clear c5 s5
          go_wp2_with fail
          go_roundw
          case rel => exact ⟨k + 1, _, _, by omega, by go_num, S5.out, KD.out, HZ5.out, by have := HU.out; omega, by have := HU.out; omega⟩
          case measure => simp [intOf]; omega
        · have t4 : (setVal 4 2 xs (n : Int) 1 == 13) = false := by simp [hv]
          clear hv
          go_wp2_with fail
          go_roundw
          case rel => exact ⟨k + 1, _, _, by omega, by go_num, S3.out, K3.out, HZ3.out, by have := HU.out; omega, by have := HU.out; omega⟩
          case measure => simp [intOf]; omega
    · obtain rfl : k = N := by omega
      have t2 : decide (k < k) = false := by simp
      go_wp2_with fail
      refine (afind_any a b 4 2 xs u 5 wr SR.out.2.1).mono ?_
      rintro e w3 ⟨rfl, c3⟩
      rw [KA.out.find.1, KA.out.find.2]
      have hz3 := c3.keep HZ.out (by simp)
      have oz3 := old hz3
      have C3 := Lib.hid ((C0.out.trans SR.out.1).trans c3)
      have he := fun W => line_eq l l hl hl W
      have te : (l == l) = true := by simp
      clear c3
      go_wp2_with (go_at_call 8; refine (wakes_true _).mono ?_; rintro e w5 ⟨rfl, c5⟩; have C5 := Lib.hid c5; clear c5)
      go_ret
      exact ⟨rfl, (C3.out.alloc _).trans C5.out⟩
end Go.Proofs.Ytdfejijiocfjhaa
