/- ArrayLast, walked. No condition. -/
import Derived.Test.YtdfejijiocfjhaaArrl
namespace Go.Proofs.Ytdfejijiocfjhaa
open Go.RowKit
set_option linter.unusedVariables false
set_option maxHeartbeats 1000000
attribute [local go_sem ↓] append_appS copy_copS clear_clrS make_mkS cell_row frozen_row loadLine storeLine loadSlot storeSlot heap_drew heap_drewN heap_alloc heap_past heap_setCell heap_putRow vs_get slc_st slc_li slc_us
attribute [local go_sem] rowCell_some rowFrozen_some rowHas_some rowIn_some rowPart_full rowPart_lit rowPut_full rowPut_lit rowSet_some size_putRow vs_size vs_one wideLine wideSlot run_loadS run_storeS run_appS run_copS run_clrS run_mkS loadW_at storeW_at fit_all fit_le one_int one_bool one_pointer one_slice allOne_list putRow_new ne_size1 ne_size2 ne_size3 ne_size4 zero8_length line_eq lit8 slc_size slc_one slc_part slc_in fold_slt fold_slc slc_set_us
attribute [local simp ↓] heap_drew heap_drewN heap_alloc heap_past heap_setCell heap_putRow
attribute [local simp] rowCell_some rowFrozen_some rowHas_some rowIn_some rowPart_full rowPart_lit rowPut_full rowPut_lit rowSet_some size_putRow vs_size fit_all putRow_new ne_size1 ne_size2 ne_size3 ne_size4 zero8_length slc_size


theorem int_info : (Try.prog.info? 3).map (fun i => (i.zero, i.size, i.bytes)) = some (some (.int .i64 0), 1, 8) := by kernel_rfl
theorem eltInt : Elt Try.prog 60 3 1 8 (.int .i64 0) ienc where
  slice := Try.underlying60
  info := int_info
  zero := rfl
  zone := by intro v hv; simp [Value.cells] at hv; subst hv; rfl
  pos := by omega
  len := ienc_len
  one := ienc_one
/-- A slice of integers of its own, beside the array. -/
def OVec (W w : World) (a b be : Nat) (A : Option Addr) (cap : Nat) (ord : List Int) : Prop := Vec 1 3 ienc w a be A cap ord ∧ (be = a ∨ (be ≠ a ∧ be ≠ b ∧ W.heap.size ≤ be))
theorem OVec.keep {W w w' : World} {a b be : Nat} {A : Option Addr} {cap : Nat} {ord : List Int} (h : OVec W w a b be A cap ord) (hc : Chg [a, b] w w') : OVec W w' a b be A cap ord := by
  refine ⟨?_, h.2⟩
  rcases h.1 with h1 | ⟨h1, h2, h3, r, h4, h5⟩
  · exact .inl h1
  · refine .inr ⟨h1, h2, h3, r, hc.keep h4 ?_, h5⟩
    rcases h.2 with h6 | h6
    · exact absurd h6 h1
    · simp; omega
theorem OVec.nil (W w : World) (a b : Nat) : OVec W w a b a none 0 [] := ⟨Vec.nil _ _ _ _ _, .inl rfl⟩
theorem int_slice (w : World) (x : Int) : Sl (w.alloc (.cells #[.int .i64 x] 3)) 1 (some ⟨w.heap.size, 0, none⟩) 1 (cat ienc [x]) :=
  ⟨by rw [cat_length ienc_len]; rfl, .inr ⟨w.heap.size, 0, #[.int .i64 x], 3, (0, 0), rfl, by simp, by rw [cat_one]; rfl⟩⟩
/-- One more integer. -/
theorem OVec.app {W w : World} {a b S N be : Nat} {xs : List Slt} {u : Int} {A : Option Addr} {cap : Nat} {ord : List Int} (s : ASys W w a b S N xs u) (h : OVec W w a b be A cap ord) (x : Int) (hl : ord.length ≤ 1000) :
    ∃ (be' cap' : Nat) (A' : Option Addr) (w' : World), appR Try.prog 60 60 #[.slice A ord.length cap, .slice (some ⟨w.heap.size, 0, none⟩) 1 1] (w.alloc (.cells #[.int .i64 x] 3)) = .ok (.slice A' (ord.length + 1) cap') w' ∧ OVec W w' a b be' A' cap' (ord ++ [x]) ∧ ASys W w' a b S N xs u := by
  have c1 := (Chg.refl [] w).alloc (.cells #[.int .i64 x] 3)
  have s1 := s.keep c1
  have ha := s.2.1.1
  have hb := s.2.1.2.1
  have hq : Old (w.alloc (.cells #[.int .i64 x] 3)) a := old (c1.keep ha (by simp))
  obtain ⟨be', cap', A', w', h1, h2, h3, h4, h5⟩ := (h.1.keep c1 (by simp)).app (ty := 60) eltInt hq (int_slice w x) (c := 1) rfl (by omega) (by unfold maxLen; omega)
  have h6 := h2.there (by simp)
  have hnew : ∀ k, (w.alloc (.cells #[.int .i64 x] 3)).heap.size ≤ k → k ≠ a ∧ k ≠ b ∧ W.heap.size ≤ k := by
    intro k hk
    have := s1.new2 hk
    have := s1.1.size
    simp at this
    have h9 := s1.2.1.olda
    have h10 := s1.2.1.oldb
    exact ⟨by omega, by omega, by have := s1.1.size; omega⟩
  refine ⟨be', cap', A', w', h1, ⟨h2, .inr ?_⟩, ?_⟩
  · rcases h3 with h3 | h3
    · subst h3
      rcases h.2 with h7 | h7
      · exact absurd h7 h6.1
      · exact h7
    · exact hnew be' h3
  · rcases h.2 with h7 | h7
    · subst h7
      exact s1.keep (h4.less h5)
    · have h8 : Chg [be] (w.alloc (.cells #[.int .i64 x] 3)) w' := h4
      refine ⟨s1.1.trans' h8 (by simp; omega), s1.2.1.keep h8 (by simp; omega) (by simp; omega), s1.2.2⟩
/-- Integer j of it. -/
theorem OVec.get {W w : World} {a b be : Nat} {A : Option Addr} {cap : Nat} {ord : List Int} (h : OVec W w a b be A cap ord) {j : Nat} {x : Int} (hj : ord[j]? = some x) : ∃ c t f, A = some ⟨be, 0, none⟩ ∧ w.heap[be]? = some (.cells c t f) ∧ c[j]? = some (.int .i64 x) := by
  have hlt := (List.getElem?_eq_some_iff.1 hj).1
  obtain ⟨h1, h2, r, h3, h4⟩ := h.1.there (by omega)
  refine ⟨_, _, _, h2, h3, ?_⟩
  have := sq_cell ienc_len hj r 0 (by omega)
  rw [Nat.mul_one, Nat.add_zero] at this
  rw [this]; rfl
theorem flt_take {ord : List Int} {j : Nat} {x : Int} (hj : ord[j]? = some x) (k : Int) : (ord.take (j + 1)).filter (· != k) = (ord.take j).filter (· != k) ++ (if x = k then [] else [x]) := by
  obtain ⟨h, rfl⟩ := List.getElem?_eq_some_iff.1 hj
  rw [List.take_succ_eq_append_getElem h, List.filter_append]
  congr 1
  split <;> simp [*]
set_option maxRecDepth 100000 in
set_option maxHeartbeats 16000000 in
theorem alast_any (wv : Int) (w0 : 0 ≤ wv) (w1 : wv ≤ 255) (B : Option Addr) (N c : Nat) (vals : List Int) (W : World) (hA : Sl W 1 B N (vals.map (Value.int .u8))) (hN : N ≤ maxLen) (hv : ∀ x ∈ vals, 0 ≤ x ∧ x ≤ 255) :
    Calls Try.prog 6 #[.int .u8 wv, .slice B N c] W fun e w' => e = .returned (.bool true) ∧ Chg [] W w' := by
  unfold maxLen at hN
  obtain ⟨K, hK⟩ : ∃ K : Nat, 2 + wv % 7 = (K : Int) := ⟨(2 + wv % 7).toNat, by omega⟩
  have K2 : 2 ≤ K := by omega
  have K8 : K ≤ 8 := by omega
  have gK8 : (K : Int) ≤ 8 := by omega
  have gK2 : (2 : Int) ≤ (K : Int) := by omega
  have HA := Lib.hid hA
  have HV := Lib.hid hv
  have LA := Lib.hid (show vals.length = N by simpa using hA.1)
  have HGN := Lib.hid (show goodNew ((1 : Nat) : Int) (K : Int) by unfold goodNew; omega)
  clear hA hv
  go_enter Try.func6, Try.ntmps6
  go_wp2_with fail
  refine (sys_new 1 K W W (Chg.refl _ _) HGN.out).mono ?_
  rintro e w1 ⟨a, b, rfl, s1, d1⟩
  have S1 := Lib.hid s1
  have HK := Lib.hid hK
  clear s1 d1 hK
  by_cases hn : 100 < N
  · have t1 : decide (100 < N) = true := by simpa using hn
    go_wp2_with (go_at_call 8; refine (wakes_true _).mono ?_; rintro e w2 ⟨rfl, c2⟩)
    go_ret
    exact ⟨rfl, S1.out.1.trans c2⟩
  have t1 : decide (100 < N) = false := by simpa using hn
  have gN : (N : Int) ≤ 100 := by omega
  go_wp2_with fail
  go_loopw [9, 8] (fun i s8 wr => ∃ (k be cap : Nat) (A : Option Addr), k ≤ K ∧ i = .int .i64 k ∧ s8 = .slice A k cap ∧ ASys W wr a b 1 K (fstXs K k) k ∧ OVec W wr a b be A cap (ordN k)) (fun i _ _ => K - (intOf i).toNat)
  case atStart => exact ⟨0, a, 0, none, by omega, rfl, rfl, by have := S1.out; rw [Nat.one_mul] at this; exact this, OVec.nil W w1 a b⟩
  case round =>
    obtain ⟨k, be, cap, A, hk, rfl, rfl, hs, ho⟩ := hrel
    have S := Lib.hid hs
    have O := Lib.hid ho
    clear hs ho
    have g0 : (0 : Int) ≤ (k : Int) := by omega
    by_cases hlt : k < K
    · have t2 : decide (k < K) = true := by simpa using hlt
      have g1 : (k : Int) ≤ 8 := by omega
      have HS := Lib.hid (fst_set hlt)
      go_wp2_with fail
      refine (sys_set S.out (by omega) (by omega) k 1 zs8 rfl).mono ?_
      rintro e w3 ⟨rfl, s3, c3⟩
      rw [HS.out.2.1]
      rw [HS.out.1, HS.out.2.2] at s3
      have S3 := Lib.hid s3
      have O3 := Lib.hid (O.out.keep c3)
      clear s3 c3
      obtain ⟨be', cap', A', w4, happ, ho4, hs4⟩ := OVec.app S3.out O3.out (k : Int) (by rw [ordN_len]; omega)
      rw [ordN_len] at happ
      rw [ordN_succ] at ho4
      have O4 := Lib.hid ho4
      have S4 := Lib.hid hs4
      clear ho4 hs4
      go_wp2_with fail
      go_roundw
      case rel => exact ⟨k + 1, be', cap', A', by omega, by go_num, rfl, by have := S4.out; exact this, O4.out⟩
      case measure => simp [intOf]; omega
    · obtain rfl : k = K := by omega
      have t2 : decide (k < k) = false := by simp
      have L0 := Lib.hid (LastAt.first (K := k) (by omega) K8)
      go_wp2_with fail
      go_loopw [10, 8] (fun i s8 wz => ∃ (j be cap : Nat) (A : Option Addr) (xs : List Slt) (u : Int) (ord : List Int), j ≤ N ∧ i = .int .i64 j ∧ s8 = .slice A k cap ∧ ASys W wz a b 1 k xs u ∧ OVec W wz a b be A cap ord ∧ LastAt k xs u ord ∧ (∀ l, l ∈ ord ↔ 0 ≤ l ∧ l < k) ∧ 0 ≤ u ∧ u ≤ k + j) (fun i _ _ => N - (intOf i).toNat)
      case atStart => exact ⟨0, be, cap, A, _, _, _, by omega, rfl, rfl, S.out, O.out, L0.out, by
        intro l
        unfold ordN
        simp only [List.mem_map, List.mem_range]
        constructor
        · rintro ⟨j, hj, rfl⟩; omega
        · rintro ⟨h1, h2⟩; exact ⟨l.toNat, by omega, by omega⟩, by omega, by omega⟩
      case round =>
        obtain ⟨j, be, cap, A, xs, u, ord, hj, rfl, rfl, hs, ho, hla, hor, u0, uj⟩ := hrel
        have R := Lib.hid hs
        have O := Lib.hid ho
        have LA2 := Lib.hid hla
        have OR := Lib.hid hor
        clear hs ho hla hor
        have j0 : (0 : Int) ≤ (j : Int) := by omega
        have u1 : u ≤ 1000000000 := by omega
        by_cases hjn : j < N
        · have t3 : decide (j < N) = true := by simpa using hjn
          have g1 : (j : Int) < (N : Int) := by omega
          obtain ⟨ba, oa, rfl⟩ := HA.out.addr (by omega)
          obtain ⟨cs, t, f, hb, hi⟩ := (HA.out.chg R.out.1 (by simp)).cell hjn
          have hkl : j < vals.length := by rw [LA.out]; exact hjn
          rw [List.getElem?_map, List.getElem?_eq_getElem hkl] at hi
          have hx := HV.out vals[j] (List.getElem_mem hkl)
          generalize vals[j] = x at hi hx
          obtain ⟨x0, x1⟩ := hx
          obtain ⟨m, rfl⟩ := Int.eq_ofNat_of_zero_le x0
          obtain ⟨n, hnm⟩ : ∃ n : Nat, (m : Int) % (k : Int) = (n : Int) := ⟨m % k, by rw [Int.natCast_emod]⟩
          have hnk : n < k := by
            have h1 : (m : Int) % (k : Int) < (k : Int) := Int.emod_lt_of_pos _ (by omega)
            omega
          have hk0 : (k : Int) ≠ 0 := by omega
          have gk0 : (0 : Int) < (k : Int) := by omega
          have HT := Lib.hid (LA2.out.touch (l := (n : Int)) ((OR.out _).2 (by omega)))
          clear hkl
          go_wp2_with fail
          refine (sys_touch R.out u0 u1 n).mono ?_
          rintro e w3 ⟨rfl, s3, c3⟩
          rw [HT.out.2] at s3
          have S3 := Lib.hid s3
          have O3 := Lib.hid (O.out.keep c3)
          clear s3 c3 hb hi
          go_wp2_with fail
          have HOA := Lib.hid (show Old w3 a from S3.out.2.1.olda)
          have HFU := Lib.hid LA2.out.full
          go_loopw [13, 12] (fun i s12 wy => ∃ (q be2 cap2 : Nat) (A2 : Option Addr), q ≤ k ∧ i = .int .i64 q ∧ s12 = .slice A2 ((ord.take q).filter (· != (n : Int))).length cap2 ∧ Chg [] w3 wy ∧ Vec 1 3 ienc wy a be2 A2 cap2 ((ord.take q).filter (· != (n : Int))) ∧ (be2 = a ∨ w3.heap.size ≤ be2)) (fun i _ _ => k - (intOf i).toNat)
          case atStart => exact ⟨0, a, 0, none, by omega, rfl, rfl, Chg.refl _ _, Vec.nil _ _ _ _ _, .inl rfl⟩
          case round =>
            obtain ⟨q, be2, cap2, A2, hq, rfl, rfl, hcy, hvy, hby⟩ := hrel
            have CY := Lib.hid hcy
            have VY := Lib.hid hvy
            have BY := Lib.hid hby
            have OY := Lib.hid (O3.out.keep (hcy.mono (l' := [a, b]) (by simp)))
            have HLE := Lib.hid (show ((ord.take q).filter (· != (n : Int))).length ≤ 8 from Nat.le_trans (List.length_filter_le _ _) (by rw [List.length_take]; omega))
            clear hcy hvy hby
            have q0 : (0 : Int) ≤ (q : Int) := by omega
            by_cases hqk : q < k
            · have t4 : decide (q < k) = true := by simpa using hqk
              have q1 : (q : Int) < (k : Int) := by omega
              obtain ⟨y, hy⟩ : ∃ y, ord[q]? = some y := ⟨ord[q]'(by rw [HFU.out]; exact hqk), List.getElem?_eq_getElem _⟩
              obtain ⟨cs, t, f, rfl, hbo, hcell⟩ := OY.out.get hy
              have HFT := Lib.hid (flt_take hy (n : Int))
              clear hy
              by_cases hyn : y = (n : Int)
              · have t5 : (y != (n : Int)) = false := by simp [hyn]
                have HP := Lib.hid (show (ord.take (q + 1)).filter (· != (n : Int)) = (ord.take q).filter (· != (n : Int)) by rw [HFT.out, if_pos hyn, List.append_nil])
                clear hyn
                go_wp2_with fail
                go_roundw
                case rel => exact ⟨q + 1, be2, cap2, A2, by omega, by go_num, by rw [HP.out], CY.out, by rw [HP.out]; exact VY.out, BY.out⟩
                case measure => simp [intOf]; omega
              · have t5 : (y != (n : Int)) = true := by simp [hyn]
                have HP := Lib.hid (show (ord.take (q + 1)).filter (· != (n : Int)) = (ord.take q).filter (· != (n : Int)) ++ [y] by rw [HFT.out, if_neg hyn])
                obtain ⟨be', cap', A', w5, happ, hv5, hb5, hc5⟩ := Vec.acc (ty := 60) eltInt (w0 := w3) (CY.out.alloc (.cells #[.int .i64 y] 3)) (VY.out.keep ((Chg.refl [] _).alloc (.cells #[.int .i64 y] 3)) (by simp)) BY.out HOA.out (int_slice wr y) (c := 1) rfl (by have := HLE.out; omega) (by have := HLE.out; unfold maxLen; omega)
                have V5 := Lib.hid hv5
                have B5 := Lib.hid hb5
                have C5 := Lib.hid hc5
                clear hyn hv5 hb5 hc5
                go_wp2_with fail
                go_roundw
                case rel => exact ⟨q + 1, be', cap', A', by omega, by go_num, by rw [HP.out, List.length_append]; rfl, C5.out, by rw [HP.out]; exact V5.out, B5.out⟩
                case measure => simp [intOf]; omega
            · obtain rfl : q = k := by omega
              have t4 : decide (q < q) = false := by simp
              have HTK := Lib.hid (show ord.take q = ord by rw [← HFU.out, List.take_length])
              rw [HTK.out] at VY HLE
              rw [HTK.out]
              have HLEN := Lib.hid (show (ord.filter (· != (n : Int))).length + 1 = q by have := HT.out.1.full; rw [List.length_append] at this; exact this)
              obtain ⟨be', cap', A', w5, happ, hv5, hb5, hc5⟩ := Vec.acc (ty := 60) eltInt (w0 := w3) (CY.out.alloc (.cells #[.int .i64 (n : Int)] 3)) (VY.out.keep ((Chg.refl [] _).alloc (.cells #[.int .i64 (n : Int)] 3)) (by simp)) BY.out HOA.out (int_slice wr (n : Int)) (c := 1) rfl (by have := HLE.out; omega) (by have := HLE.out; unfold maxLen; omega)
              have C5 := Lib.hid hc5
              have O5 := Lib.hid (show OVec W w5 a b be' A' cap' (ord.filter (· != (n : Int)) ++ [(n : Int)]) by
                refine ⟨hv5, .inr ?_⟩
                have h6 := hv5.there (by simp)
                rcases hb5 with h7 | h7
                · exact absurd h7 h6.1
                · have h8 := S3.out.2.1.olda
                  have h9 := S3.out.2.1.oldb
                  have h10 := S3.out.1.size
                  exact ⟨by omega, by omega, by omega⟩)
              clear hv5 hb5 hc5
              go_wp2_with fail
              go_roundw
              case rel =>
                refine ⟨j + 1, be', cap', A', _, _, _, by omega, by go_num, ?_, S3.out.keep C5.out, O5.out, HT.out.1, ?_, by omega, by omega⟩
                · rw [HLEN.out]
                · intro l
                  rw [List.mem_append, List.mem_filter, OR.out l]
                  simp only [List.mem_singleton, bne_iff_ne, ne_eq]
                  constructor
                  · rintro (h | rfl)
                    · exact h.1
                    · omega
                  · intro h
                    by_cases e : l = (n : Int)
                    · exact .inr e
                    · exact .inl ⟨h, e⟩
              case measure => simp [intOf]; omega
        · obtain rfl : j = N := by omega
          have t3 : decide (j < j) = false := by simp
          have HFU := Lib.hid LA2.out.full
          go_wp2_with fail
          go_loopw [14] (fun i wq => ∃ (q : Nat) (ys : List Slt) (v : Int), q ≤ k ∧ i = .int .i64 q ∧ ASys W wq a b 1 k ys v ∧ OVec W wq a b be A cap ord ∧ LastAt k ys v (ord.drop q ++ (List.range q).map (fun z : Nat => 50 + (z : Int))) ∧ 0 ≤ v ∧ v ≤ k + j + q) (fun i _ => k - (intOf i).toNat)
          case atStart => exact ⟨0, xs, u, by omega, rfl, R.out, O.out, by simpa using LA2.out, u0, by omega⟩
          case round =>
            obtain ⟨q, ys, v, hq, rfl, hs, ho, hla, v0, vq⟩ := hrel
            have Q := Lib.hid hs
            have OQ := Lib.hid ho
            have LQ := Lib.hid hla
            clear hs ho hla
            have q0 : (0 : Int) ≤ (q : Int) := by omega
            have v1 : v ≤ 1000000000 := by omega
            by_cases hqk : q < k
            · have t4 : decide (q < k) = true := by simpa using hqk
              have q1 : (q : Int) < (k : Int) := by omega
              have q2 : (q : Int) ≤ 8 := by omega
              have hql : q < ord.length := by rw [HFU.out]; exact hqk
              obtain ⟨y, hy⟩ : ∃ y, ord[q]? = some y := ⟨ord[q]'hql, List.getElem?_eq_getElem _⟩
              have hdr : ord.drop q = y :: ord.drop (q + 1) := by
                rw [List.drop_eq_getElem_cons hql]
                rw [List.getElem?_eq_getElem hql] at hy
                injection hy with hy
                rw [hy]
              have hla := LQ.out
              rw [hdr, List.cons_append] at hla
              have hfr : (50 + (q : Int)) ∉ y :: (ord.drop (q + 1) ++ (List.range q).map (fun z : Nat => 50 + (z : Int))) := by
                intro hm
                rw [← List.cons_append, ← hdr] at hm
                rcases List.mem_append.1 hm with h1 | h1
                · have := (OR.out _).1 (List.mem_of_mem_drop h1)
                  omega
                · obtain ⟨z, hz, e⟩ := List.mem_map.1 h1
                  have := List.mem_range.1 hz
                  omega
              have HO := Lib.hid (hla.out (50 + (q : Int)) (by omega))
              have HNX := Lib.hid (hla.next (50 + (q : Int)) hfr (by omega))
              obtain ⟨cs, t, f, rfl, hbo, hcell⟩ := OQ.out.get hy
              have HBO := Lib.hid hbo
              have tyy : (y != y) = false := by simp
              clear hla hfr hdr hy hql hbo
              go_wp2_with fail
              refine (aroom_any a b 1 k ys v (50 + (q : Int)) wr Q.out.2.1).mono ?_
              rintro e w3 ⟨rfl, c3⟩
              rw [HO.out.1, HO.out.2.1]
              have S3 := Lib.hid (Q.out.keep c3)
              have hb3 := c3.keep HBO.out (by simp)
              have ob3 := old hb3
              have O3 := Lib.hid (OQ.out.keep (c3.mono (l' := [a, b]) (by simp)))
              clear c3
              go_wp2_with fail
              refine (sys_drop S3.out y).mono ?_
              rintro e w4 ⟨rfl, s4, c4⟩
              rw [HO.out.2.2]
              have S4 := Lib.hid s4
              have O4 := Lib.hid (O3.out.keep c4)
              clear s4 c4 hb3 ob3
              go_wp2_with fail
              refine (sys_set S4.out v0 v1 (50 + (q : Int)) 2 zs8 rfl).mono ?_
              rintro e w5 ⟨rfl, s5, c5⟩
              rw [HNX.out.2.1]
              rw [HNX.out.2.2] at s5
              have S5 := Lib.hid s5
              have O5 := Lib.hid (O4.out.keep c5)
              clear s5 c5
              go_wp2_with fail
              go_roundw
              case rel => exact ⟨q + 1, _, _, by omega, by go_num, S5.out, O5.out, by have := HNX.out.1; rw [List.append_assoc] at this; rw [List.range_succ, List.map_append]; exact this, by omega, by omega⟩
              case measure => simp [intOf]; omega
            · obtain rfl : q = k := by omega
              have t4 : decide (q < q) = false := by simp
              go_wp2_with (go_at_call 8; refine (wakes_true _).mono ?_; rintro e w5 ⟨rfl, c5⟩; have C5 := Lib.hid c5; clear c5)
              go_ret
              exact ⟨rfl, Q.out.1.trans C5.out⟩
end Go.Proofs.Ytdfejijiocfjhaa
