/- ArrayOnce: each line once. No condition. -/
import Derived.Test.YtdfejijiocfjhaaArry
import Derived.IntWalk
import Derived.Deep.Cut
import Derived.Deep.CutBlock
import Derived.Deep.CutRange
namespace Go.Proofs.Ytdfejijiocfjhaa
open Go.RowKit
set_option linter.unusedVariables false
set_option maxHeartbeats 1000000
attribute [local go_sem ↓] append_appS copy_copS clear_clrS make_mkS cell_row frozen_row loadLine storeLine loadSlot storeSlot heap_drew heap_drewN heap_alloc heap_past heap_setCell heap_putRow vs_get slc_st slc_li slc_us
attribute [local go_sem] rowCell_some rowFrozen_some rowHas_some rowIn_some rowPart_full rowPart_lit rowPut_full rowPut_lit rowSet_some size_putRow vs_size vs_one wideLine wideSlot run_loadS run_storeS run_appS run_copS run_clrS run_mkS loadW_at storeW_at fit_all fit_le one_int one_bool one_pointer one_slice allOne_list putRow_new ne_size1 ne_size2 ne_size3 ne_size4 zero8_length line_eq lit8 slc_size slc_one slc_part slc_in fold_slt fold_slc slc_set_us
attribute [local simp ↓] heap_drew heap_drewN heap_alloc heap_past heap_setCell heap_putRow
attribute [local simp] rowCell_some rowFrozen_some rowHas_some rowIn_some rowPart_full rowPart_lit rowPut_full rowPut_lit rowSet_some size_putRow vs_size fit_all putRow_new ne_size1 ne_size2 ne_size3 ne_size4 zero8_length slc_size


attribute [local go_sem ↓] loadAStep storeAStep asc_kd asc_li asc_st
attribute [local go_sem] wideAStep asc_size asc_one asc_l asc_in
/-! ### ArrayOnce -/
/-- Each line at most once; no two uses the same; states are such as Set lets in. -/
structure OnceAt (S M : Nat) (xs : List Slt) (u : Int) : Prop where
  good : Good S M xs
  apart : ∀ (i j : Nat) (x y : Slt), xs[i]? = some x → xs[j]? = some y → i ≠ j → x.st ≠ 0 → y.st ≠ 0 → x.li ≠ y.li ∧ x.us ≠ y.us
  top : ∀ x ∈ xs, x.st ≠ 0 → x.us ≤ u
  pos : ∀ x ∈ xs, x.st ≠ 0 → 1 ≤ x.st
theorem OnceAt.new {S M : Nat} (h : Good S M (List.replicate (S * M) sltZ)) : OnceAt S M (List.replicate (S * M) sltZ) 0 := by
  have hz : ∀ x ∈ List.replicate (S * M) sltZ, x.st = 0 := fun x hx => by rw [List.eq_of_mem_replicate hx]; rfl
  refine ⟨h, ?_, ?_, ?_⟩
  · intro i j x y hx _ _ h0 _
    exact absurd (hz x (List.mem_of_getElem? hx)) h0
  · intro x hx h0; exact absurd (hz x hx) h0
  · intro x hx h0; exact absurd (hz x hx) h0
theorem OnceAt.put {S M : Nat} {xs : List Slt} {u : Int} (h : OnceAt S M xs u) {p : Nat} {y : Slt} (hg : Good S M (xs.set p y)) (hu : y.us = u + 1) (hs : 1 ≤ y.st) (hno : ∀ (j : Nat) (z : Slt), xs[j]? = some z → j ≠ p → z.st ≠ 0 → z.li ≠ y.li) : OnceAt S M (xs.set p y) (u + 1) := by
  have hset : ∀ (i : Nat) (z : Slt), (xs.set p y)[i]? = some z → (i = p ∧ z = y) ∨ (i ≠ p ∧ xs[i]? = some z) := by
    intro i z hz
    rw [List.getElem?_set] at hz
    split at hz
    · rename_i e
      split at hz
      · injection hz with hz
        exact .inl ⟨e.symm, hz.symm⟩
      · cases hz
    · rename_i e
      exact .inr ⟨fun e2 => e e2.symm, hz⟩
  refine ⟨hg, ?_, ?_, ?_⟩
  · intro i j x z hx hz hij h0 h1
    rcases hset i x hx with ⟨e1, rfl⟩ | ⟨e1, hx'⟩
    · rcases hset j z hz with ⟨e2, rfl⟩ | ⟨e2, hz'⟩
      · omega
      · have h2 := hno j z hz' e2 h1
        have h3 := h.top z (List.mem_of_getElem? hz') h1
        exact ⟨fun e => h2 e.symm, by omega⟩
    · rcases hset j z hz with ⟨e2, rfl⟩ | ⟨e2, hz'⟩
      · have h2 := hno i x hx' e1 h0
        have h3 := h.top x (List.mem_of_getElem? hx') h0
        exact ⟨h2, by omega⟩
      · exact h.apart i j x z hx' hz' hij h0 h1
  · intro x hx h0
    rcases List.mem_or_eq_of_mem_set hx with h1 | rfl
    · have := h.top x h1 h0; omega
    · omega
  · intro x hx h0
    rcases List.mem_or_eq_of_mem_set hx with h1 | rfl
    · exact h.pos x h1 h0
    · exact hs
theorem OnceAt.find {S M : Nat} {xs : List Slt} {u : Int} (h : OnceAt S M xs u) {i : Nat} {y : Slt} (hy : xs[i]? = some y) (h0 : y.st ≠ 0) : xs.findIdx (pLine y.li) = i ∧ findVal xs y.li = y ∧ dropVal xs y.li = true := by
  have hi := (List.getElem?_eq_some_iff.1 hy).1
  have e : xs.findIdx (pLine y.li) = i := by
    rcases hit_or (pLine y.li) xs with ⟨k, z, e1, e2, e3, e4, e5, e6⟩ | ⟨e1, e2, e3⟩
    · obtain ⟨h1, h2⟩ := pLine_yes e4
      by_cases hk : k = i
      · omega
      · exact absurd h2 (h.apart k i z y e3 hy hk h1 h0).1
    · have := e3 y (List.mem_of_getElem? hy)
      simp [pLine, h0] at this
  refine ⟨e, ?_, ?_⟩
  · unfold findVal; rw [e, hy]
  · unfold dropVal; rw [e]; simpa using hi
theorem OnceAt.other {S M : Nat} {xs : List Slt} {u : Int} (h : OnceAt S M xs u) {i : Nat} {y : Slt} (hy : xs[i]? = some y) (h0 : y.st ≠ 0) : ∀ (j : Nat) (z : Slt), xs[j]? = some z → j ≠ i → z.st ≠ 0 → z.li ≠ y.li :=
  fun j z hz hj hz0 => (h.apart j i z y hz hy hj hz0 h0).1
theorem OnceAt.set {S M : Nat} {xs : List Slt} {u : Int} (h : OnceAt S M xs u) (li st : Int) (l : List Int) (hl : l.length = 8) : OnceAt S M (setXs S M xs u li st l hl) (setU S M xs u li st) := by
  have hg := h.good.setXs u li st l hl
  unfold setXs setU at *
  by_cases hb : badSet li st
  · rw [if_pos hb, if_pos hb]; exact h
  rw [if_neg hb] at hg
  rw [if_neg hb, if_neg hb]
  have hst : 1 ≤ st := by unfold badSet at hb; omega
  rcases h.good.where li with ⟨k, y, e1, e2, hk, hy, h0, hli, _, e3, e4, e5⟩ | ⟨e1, e2, e3, e4⟩
  · have ep : place S M xs li = setOf S li * M + k := by unfold place; rw [e2, if_pos e5]
    rw [ep] at hg ⊢
    rw [if_pos e5]
    refine h.put hg rfl hst ?_
    intro j z hz hj hz0
    have := h.other hy h0 j z hz hj hz0
    rw [hli] at this
    exact this
  · rcases h.good.room li with ⟨k, y, d1, hk, hy, hst0, d3, d4, _⟩ | ⟨d1, d2, d3⟩
    · have ep : place S M xs li = setOf S li * M + k := by unfold place; rw [e3, d1, if_neg (by omega), if_pos hk]
      rw [ep] at hg ⊢
      rw [if_pos d4]
      refine h.put hg rfl hst ?_
      intro j z hz hj hz0 e
      have := e4 z (List.mem_of_getElem? hz)
      simp [pLine, hz0] at this
      exact this e
    · have ep : place S M xs li = xs.length := by unfold place; rw [e3, d2, if_neg (by omega), if_neg (by omega)]
      rw [ep, set_none, if_neg (by omega)]
      exact h
theorem OnceAt.touch {S M : Nat} {xs : List Slt} {u : Int} (h : OnceAt S M xs u) (li : Int) : OnceAt S M (touchXs xs u li) (touchU xs u li) := by
  have hg := h.good.touchXs u li
  unfold touchXs touchU at *
  rcases hit_or (pLine li) xs with ⟨k, y, e1, e2, e3, e4, e5, e6⟩ | ⟨e1, e2, e3⟩
  · obtain ⟨h1, h2⟩ := pLine_yes e4
    rw [e2, e3] at hg ⊢
    rw [if_pos e5]
    exact h.put hg rfl (h.pos y (List.mem_of_getElem? e3) h1) (fun j z hz hj hz0 => h.other e3 h1 j z hz hj hz0)
  · rw [e2, List.getElem?_eq_none (Nat.le_refl _), if_neg (by omega)]
    exact h
theorem OnceAt.drop {S M : Nat} {xs : List Slt} {u : Int} (h : OnceAt S M xs u) (li : Int) : OnceAt S M (dropXs xs li) u := by
  have hg := h.good.dropXs li
  unfold dropXs at *
  have hset : ∀ (i : Nat) (z : Slt), (xs.set (xs.findIdx (pLine li)) sltZ)[i]? = some z → z.st ≠ 0 → xs[i]? = some z := by
    intro i z hz h0
    rw [List.getElem?_set] at hz
    split at hz
    · split at hz
      · injection hz with hz
        rw [← hz] at h0
        exact absurd rfl h0
      · cases hz
    · exact hz
  refine ⟨hg, ?_, ?_, ?_⟩
  · intro i j x y hx hy hij h0 h1
    exact h.apart i j x y (hset i x hx h0) (hset j y hy h1) hij h0 h1
  · intro x hx h0
    obtain ⟨i, hi⟩ := List.getElem?_of_mem hx
    exact h.top x (List.mem_of_getElem? (hset i x hi h0)) h0
  · intro x hx h0
    obtain ⟨i, hi⟩ := List.getElem?_of_mem hx
    exact h.pos x (List.mem_of_getElem? (hset i x hi h0)) h0
/-- Those that are told, two by two. -/
theorem OnceAt.told {S M : Nat} {xs : List Slt} {u : Int} (h : OnceAt S M xs u) : ∀ (i j : Nat) (x y : Slt), (live xs)[i]? = some x → (live xs)[j]? = some y → i ≠ j → x.li ≠ y.li ∧ x.us ≠ y.us := by
  have hp : (live xs).Pairwise (fun x y => x.li ≠ y.li ∧ x.us ≠ y.us) := by
    unfold live
    rw [List.pairwise_filter]
    rw [List.pairwise_iff_getElem]
    intro i j hi hj hij h0 h1
    exact h.apart i j _ _ (List.getElem?_eq_getElem hi) (List.getElem?_eq_getElem hj) (by omega) (by simpa using h0) (by simpa using h1)
  rw [List.pairwise_iff_getElem] at hp
  intro i j x y hx hy hij
  obtain ⟨hi, rfl⟩ := List.getElem?_eq_some_iff.1 hx
  obtain ⟨hj, rfl⟩ := List.getElem?_eq_some_iff.1 hy
  rcases Nat.lt_or_gt_of_ne hij with h1 | h1
  · exact hp i j hi hj h1
  · have := hp j i hj hi h1
    exact ⟨fun e => this.1 e.symm, fun e => this.2 e.symm⟩
def cntS (S : Nat) (t : Nat) (ys : List Slt) : Nat := ys.countP (fun z => setOf S z.li == t)
theorem cntS_take {S t : Nat} {ys : List Slt} {r : Nat} {z : Slt} (h : ys[r]? = some z) : cntS S t (ys.take (r + 1)) = cntS S t (ys.take r) + (if setOf S z.li = t then 1 else 0) := by
  obtain ⟨hr, rfl⟩ := List.getElem?_eq_some_iff.1 h
  unfold cntS
  rw [List.take_succ_eq_append_getElem hr, List.countP_append]
  congr 1
  simp [List.countP_singleton]
theorem cntS_le {S t : Nat} (ys : List Slt) : cntS S t ys ≤ ys.length := List.countP_le_length
/-- No set has more than its ways. -/
theorem Good.many {S M : Nat} {xs : List Slt} (h : Good S M xs) {t : Nat} (ht : t < S) : cntS S t (live xs) ≤ M := by
  unfold cntS live
  rw [List.countP_filter]
  have hw := h.way1
  have e : xs = xs.take (t * M) ++ (seg M xs t ++ xs.drop (t * M + M)) := by
    unfold seg
    rw [← List.drop_drop, List.take_append_drop, List.take_append_drop]
  have hz : ∀ (i : Nat) (z : Slt), xs[i]? = some z → i / M ≠ t → (setOf S z.li == t && z.st != 0) = false := by
    intro i z hz hd
    by_cases h0 : z.st = 0
    · simp [h0]
    · have := (h.home i z hz h0).2
      have h1 : setOf S z.li ≠ t := by omega
      simp [h1]
  have h1 : (xs.take (t * M)).countP (fun z => setOf S z.li == t && z.st != 0) = 0 := by
    rw [List.countP_eq_zero]
    intro z hz2
    obtain ⟨j, hj, rfl⟩ := List.mem_take_iff_getElem.1 hz2
    have := hz j _ (List.getElem?_eq_getElem (by omega)) (by
      have : j / M < t := (Nat.div_lt_iff_lt_mul (by omega)).2 (by omega)
      omega)
    rw [this]; simp
  have h2 : (xs.drop (t * M + M)).countP (fun z => setOf S z.li == t && z.st != 0) = 0 := by
    rw [List.countP_eq_zero]
    intro z hz2
    obtain ⟨j, hj, rfl⟩ := List.getElem_of_mem hz2
    rw [List.getElem_drop]
    have hjl : t * M + M + j < xs.length := by rw [List.length_drop] at hj; omega
    have := hz (t * M + M + j) _ (List.getElem?_eq_getElem hjl) (by
      have h5 : t + 1 ≤ (t * M + M + j) / M := by
        rw [Nat.le_div_iff_mul_le (by omega), Nat.add_mul]
        omega
      omega)
    rw [this]; simp
  have h3 : (seg M xs t).countP (fun z => setOf S z.li == t && z.st != 0) ≤ M := Nat.le_trans List.countP_le_length (by rw [seg_length h.len ht]; exact Nat.le_refl _)
  rw [e, List.countP_append, List.countP_append, h1, h2]
  omega
/-- Who may go, is there, and was used longest ago of those at rest in the set. -/
theorem OnceAt.victim {S M : Nat} {xs : List Slt} {u : Int} (h : OnceAt S M xs u) {li : Int} (h0 : 0 ≤ li) (hf : roomFree S M xs li = false) (hv : 0 ≤ roomVic S M xs li) :
    dropVal xs (roomVic S M xs li) = true ∧ (findVal xs (roomVic S M xs li)).st ≤ 3 ∧ ∀ z ∈ live xs, z.st ≤ 3 → setOf S z.li = setOf S li → (findVal xs (roomVic S M xs li)).us ≤ z.us := by
  have hset := h.good.set_lt li
  have hnf : ¬ (seg M xs (setOf S li)).findIdx pFree < M := by
    intro e
    unfold roomFree at hf
    simp [h0, e] at hf
  have hvic : roomVic S M xs li = eld (seg M xs (setOf S li)) := by unfold roomVic; rw [if_neg (by omega), if_neg hnf]
  rw [hvic] at hv ⊢
  have hrest : ∀ y : Slt, atRest y.st = true → y.st ≠ 0 ∧ y.st ≤ 3 := by
    intro y hr
    unfold atRest at hr
    simp at hr
    omega
  have hpos : ∀ y ∈ seg M xs (setOf S li), atRest y.st = true → 0 ≤ y.li := by
    intro y hy hr
    obtain ⟨i, hi, _⟩ := seg_mem h.good hset hy
    exact (h.good.home i y hi (hrest y hr).1).1
  rcases eldS_pick _ hpos with ⟨e1, e2⟩ | ⟨y, y1, y2, y3, y4⟩
  · exfalso
    unfold eld at hv
    rw [e1] at hv
    simp at hv
  · have ev : eld (seg M xs (setOf S li)) = y.li := by unfold eld; rw [y3]
    rw [ev]
    obtain ⟨i, hi, hd⟩ := seg_mem h.good hset y1
    obtain ⟨f1, f2, f3⟩ := h.find hi (hrest y y2).1
    rw [f2]
    refine ⟨f3, (hrest y y2).2, ?_⟩
    intro z hz hz3 hzs
    obtain ⟨hzx, hz0⟩ := mem_live.1 hz
    obtain ⟨j, hj⟩ := List.getElem?_of_mem hzx
    have hjd := (h.good.home j z hj hz0).2
    have hzm : z ∈ seg M xs (setOf S li) := by
      have := mem_seg h.good hj
      rw [hjd, hzs] at this
      exact this
    have hzp := h.pos z hzx hz0
    exact y4 z hzm (by unfold atRest; simp; omega)
/-- A remainder, as 'Mod' reckons it. -/
def amodn (a : Int) (n : Nat) : Nat := (a % (n : Int)).toNat
theorem amod_ok (a : Int) (n : Nat) (h1 : 1 ≤ n) (h2 : n ≤ 1000000) (w : World) : Calls Try.prog 26 #[.int .i64 a, .int .i64 n] w fun e w' => e = .returned (.int .i64 (amodn a n)) ∧ w = w' := by
  have hn0 : (n : Int) ≠ 0 := by omega
  have g1 : (1 : Int) ≤ (n : Int) := by omega
  have g2 : (n : Int) ≤ 1000000 := by omega
  have b1 : -(n : Int) < a.tmod n := by
    have := Int.lt_tmod_of_pos a (show (0 : Int) < (n : Int) by omega)
    omega
  have b2 : a.tmod n < (n : Int) := Int.tmod_lt_of_pos a (by omega)
  have hm : (amodn a n : Int) = (a.tmod n + n) % n := by
    unfold amodn
    rw [Int.toNat_of_nonneg (Int.emod_nonneg a hn0), Int.add_emod_right]
    exact (Int.emod_eq_emod_iff_emod_sub_eq_zero).2 (by
      have := Int.mul_tdiv_add_tmod a n
      have h3 : a - a.tmod n = n * a.tdiv n := by omega
      rw [h3]; exact Int.mul_emod_right _ _)
  have HM := Lib.hid hm
  have w1 : IntKind.i64.wrap (a.tmod n + n) = a.tmod n + n := IntWalk.i64_in _ (by omega)
  have w2 : 0 ≤ a.tmod n + n := by omega
  have w3 : IntKind.i64.wrap (a.tmod n) = a.tmod n := IntWalk.i64_in _ (by omega)
  clear hm
  go_enter Try.func26, Try.ntmps26
  go_wp2
  go_ret
  exact ⟨by rw [HM.out]; rfl, rfl⟩
theorem rgeom_at (S : Nat) (li : Int) (t : Nat) (w : World) (h : S = 1 ∨ S = 2 ∨ S = 4 ∨ S = 8) (h0 : 0 ≤ li) (ht : setOf S li = t) : Calls Try.prog 25 #[.int .i64 S, .int .i64 li] w fun e w' => e = .returned (.int .i64 t) ∧ w = w' := by
  subst ht; exact rgeom_ok S li w h h0
set_option maxRecDepth 100000 in
set_option maxHeartbeats 16000000 in
theorem aonce_any (nv wv : Int) (n0 : 0 ≤ nv) (n1 : nv ≤ 255) (v0 : 0 ≤ wv) (v1 : wv ≤ 255) (A : Option Addr) (N cN : Nat) (xs : List Value) (W : World) (hA : Sl W 11 A N xs) (hN : N ≤ maxLen) (hk : ∀ i, i < N → AreKd W kAStep ((xs.drop (i * 11)).take 11)) :
    Calls Try.prog 4 #[.int .u8 nv, .int .u8 wv, .slice A N cN] W fun e w' => e = .returned (.bool true) ∧ Chg [] W w' := by
  unfold maxLen at hN
  have HA := Lib.hid hA
  have HK := Lib.hid hk
  clear hA hk
  obtain ⟨M, hM⟩ : ∃ M : Nat, 1 + wv % 8 = (M : Int) := ⟨(1 + wv % 8).toNat, by omega⟩
  obtain ⟨r, hr⟩ : ∃ r : Nat, nv % 4 = (r : Int) := ⟨(nv % 4).toNat, by omega⟩
  have M1 : 1 ≤ M := by omega
  have M8 : M ≤ 8 := by omega
  have r4 : r < 4 := by omega
  obtain ⟨S, hS⟩ : ∃ S : Nat, 2 ^ r = S := ⟨_, rfl⟩
  have HSS := Lib.hid (show S = 1 ∨ S = 2 ∨ S = 4 ∨ S = 8 by
    have : r = 0 ∨ r = 1 ∨ r = 2 ∨ r = 3 := by omega
    rcases this with rfl | rfl | rfl | rfl <;> simp at hS <;> omega)
  have hw : wrap64 (2 ^ r) = (S : Int) := by
    have : r = 0 ∨ r = 1 ∨ r = 2 ∨ r = 3 := by omega
    rcases this with rfl | rfl | rfl | rfl <;> subst hS <;> first | rfl | decide | (simp [wrap64]; done) | (unfold wrap64; omega)
  have HGN := Lib.hid (show goodNew (S : Int) (M : Int) by have := HSS.out; unfold goodNew; omega)
  go_enter Try.func4, Try.ntmps4
  go_wp2_with fail
  refine (sys_new S M W W (Chg.refl _ _) HGN.out).mono ?_
  rintro e w1 ⟨a, b, rfl, s1, d1⟩
  have S1 := Lib.hid s1
  clear s1 d1
  by_cases h200 : 200 < N
  · have t0 : decide (200 < N) = true := by simpa using h200
    go_wp2_with (go_at_call 8; refine (wakes_true _).mono ?_; rintro e w2 ⟨rfl, c2⟩)
    go_ret
    exact ⟨rfl, S1.out.1.trans c2⟩
  have t0 : decide (200 < N) = false := by simpa using h200
  have hN' : N ≤ 200 := by omega
  have gN : (N : Int) ≤ 200 := by omega
  have gM : (M : Int) ≤ 8 := by omega
  have gS : (S : Int) ≤ 8 := by have := HSS.out; omega
  clear hM hr hS
  go_wp2_with fail
  go_loopw [11] (fun i wr => ∃ (k : Nat) (ys : List Slt) (u : Int), k ≤ N ∧ i = .int .i64 k ∧ ASys W wr a b S M ys u ∧ OnceAt S M ys u ∧ 0 ≤ u ∧ u ≤ k) (fun i _ => N - (intOf i).toNat)
  case atStart => exact ⟨0, _, 0, by omega, rfl, S1.out, OnceAt.new S1.out.good, by omega, by omega⟩
  case round =>
    obtain ⟨k, ys, u, hkN, rfl, hs, hon, u0, uk⟩ := hrel
    have B := Lib.hid hs
    have ON := Lib.hid hon
    clear hs hon
    have g0 : (0 : Int) ≤ (k : Int) := by omega
    by_cases hlt : k < N
    · have t1 : decide (k < N) = true := by simpa using hlt
      have g1 : (k : Int) < (N : Int) := by omega
      have u1 : u ≤ 1000000000 := by omega
      obtain ⟨ba, oa, rfl⟩ := HA.out.addr (by omega)
      obtain ⟨x, cs, t, f, hb, hi, hp⟩ := astep_row HA.out hlt (HK.out k hlt)
      have hbr := B.out.1.keep hb (by simp)
      have obr := old hbr
      have B1 := Lib.hid (B.out.keep ((Chg.refl [] wr).alloc (.cells (asc x) 35)))
      have hx1 : (wr.alloc (.cells (asc x) 35)).heap[wr.heap.size]? = some (.cells (asc x) 35 (0, 0)) := by simp
      have NX := Lib.hid (B.out.new2 (Nat.le_refl _))
      clear hb
      go_upto_block 2 with (fail)
      generalize wr.alloc (.cells (asc x) 35) = w3 at hx1 B1 ⊢
      go_cut [13] from 68 to 89 (fun s13 wx => ∃ (ys9 : List Slt) (u9 : Int), ASys W wx a b S M ys9 u9 ∧ OnceAt S M ys9 u9 ∧ 0 ≤ u9 ∧ u9 ≤ k + 1 ∧ wx.heap[wr.heap.size]? = some (.cells (asc x) 35 (0, 0)))
      case first =>
        have ox1 := old hx1
        by_cases k0 : x.kd = 0
        · have tk : (x.kd == 0) = true := by simp [k0]
          clear k0
          go_wp2_with fail
          refine (sys_set B1.out u0 u1 x.li x.st x.l x.h).mono ?_
          rintro e w4 ⟨rfl, s4, c4⟩
          have HX4 := Lib.hid (c4.keep hx1 NX.out)
          have S4 := Lib.hid s4
          have HU := Lib.hid (setU_le (S := S) (W := M) (xs := ys) (u := u) (li := x.li) (st := x.st))
          clear s4 c4 hx1 ox1
          go_wp2_with fail
          go_meet
          case rel => exact ⟨_, _, S4.out, ON.out.set x.li x.st x.l x.h, by have := HU.out; omega, by have := HU.out; omega, HX4.out⟩
        have tk0 : (x.kd == 0) = false := by simpa using k0
        by_cases k1 : x.kd = 1
        · have tk : (x.kd == 1) = true := by simp [k1]
          clear k1
          go_wp2_with fail
          refine (sys_touch B1.out u0 u1 x.li).mono ?_
          rintro e w4 ⟨rfl, s4, c4⟩
          have HX4 := Lib.hid (c4.keep hx1 NX.out)
          have S4 := Lib.hid s4
          have HU := Lib.hid (touchU_le (xs := ys) (u := u) (li := x.li))
          clear s4 c4 hx1 ox1
          go_wp2_with fail
          go_meet
          case rel => exact ⟨_, _, S4.out, ON.out.touch x.li, by have := HU.out; omega, by have := HU.out; omega, HX4.out⟩
        have tk1 : (x.kd == 1) = false := by simpa using k1
        by_cases k2 : x.kd = 2
        · have tk : (x.kd == 2) = true := by simp [k2]
          clear k2
          go_wp2_with fail
          refine (sys_drop B1.out x.li).mono ?_
          rintro e w4 ⟨rfl, s4, c4⟩
          have HX4 := Lib.hid (c4.keep hx1 NX.out)
          have S4 := Lib.hid s4
          clear s4 c4 hx1 ox1
          go_wp2_with fail
          go_meet
          case rel => exact ⟨_, _, S4.out, ON.out.drop x.li, u0, by omega, HX4.out⟩
        have tk2 : (x.kd == 2) = false := by simpa using k2
        have HX1 := Lib.hid hx1
        go_wp2_with fail
        go_meet
        case rel => exact ⟨ys, u, B1.out, ON.out, u0, by omega, HX1.out⟩
      case rest =>
        obtain ⟨ys9, u9, hb9, ho9, y0, y1, hx9⟩ := hcut
        have B9 := Lib.hid hb9
        have O9 := Lib.hid ho9
        clear hb9 ho9
        rename World => w9
        go_wp2_with fail
        refine (aslots_ok a b S M ys9 u9 w9 B9.out.2.1).mono ?_
        rintro e w5 ⟨A5, c5, rfl, s5, d5⟩
        have B5 := Lib.hid (B9.out.keep d5)
        have HX5 := Lib.hid (d5.keep hx9 (by simp))
        have HTO := Lib.hid O9.out.told
        have HMA := Lib.hid (fun t (ht : t < S) => O9.out.good.many ht)
        have HLV := Lib.hid (show ∀ z ∈ live ys9, 0 ≤ z.li by
          intro z hz
          obtain ⟨h1, h2⟩ := mem_live.1 hz
          obtain ⟨i, hi⟩ := List.getElem?_of_mem h1
          exact (O9.out.good.home i z hi h2).1)
        have HVI := Lib.hid (fun (li : Int) (h0 : 0 ≤ li) => O9.out.victim (li := li) h0)
        have HSL := Lib.hid (fun (li : Int) => O9.out.good.set_lt li)
        obtain ⟨tl, htl⟩ : ∃ tl, live ys9 = tl := ⟨_, rfl⟩
        have hle : tl.length ≤ 64 := by rw [← htl]; exact Nat.le_trans (live_le ys9) B5.out.good.len64
        rw [htl] at s5 HTO HMA HLV HVI ⊢
        obtain ⟨n, hn⟩ : ∃ n, tl.length = n := ⟨_, rfl⟩
        have HNN := Lib.hid hn
        rw [hn] at s5 hle ⊢
        have T5 := Lib.hid s5
        have gn : (n : Int) ≤ 64 := by omega
        clear s5 d5 hx9 htl hn
        go_wp2_with fail
        go_loopw [14] (fun i wy => ∃ q : Nat, q ≤ n ∧ i = .int .i64 q ∧ Chg [] w5 wy) (fun i _ => n - (intOf i).toNat)
        case atStart => exact ⟨0, by omega, rfl, Chg.refl _ _⟩
        case round =>
          obtain ⟨q, hq, rfl, hcy⟩ := hrel
          have CY := Lib.hid hcy
          clear hcy
          have q0 : (0 : Int) ≤ (q : Int) := by omega
          by_cases hqn : q < n
          · have t2 : decide (q < n) = true := by simpa using hqn
            have q1 : (q : Int) < (n : Int) := by omega
            obtain ⟨y, hy⟩ : ∃ y, tl[q]? = some y := ⟨tl[q]'(by rw [HNN.out]; exact hqn), List.getElem?_eq_getElem _⟩
            have HY := Lib.hid hy
            have hy0 := HLV.out y (List.mem_of_getElem? hy)
            obtain ⟨ty, hty⟩ : ∃ ty, setOf S y.li = ty := ⟨_, rfl⟩
            have HTY := Lib.hid hty
            have HTS := Lib.hid (show ty < S by rw [← hty]; exact HSL.out y.li)
            clear hy hty
            go_wp2_with fail
            go_loopw [16, 15] (fun i s15 wz => ∃ r m : Nat, r ≤ n ∧ i = .int .i64 r ∧ s15 = .int .i64 m ∧ m = cntS S ty (tl.take r) ∧ Chg [] w5 wz) (fun i _ _ => n - (intOf i).toNat)
            case atStart => exact ⟨0, 0, by omega, rfl, rfl, rfl, CY.out⟩
            case round =>
              obtain ⟨r, m, hr, rfl, rfl, hm, hcz⟩ := hrel
              have CZ := Lib.hid hcz
              have HM := Lib.hid hm
              have hm64 : m ≤ 64 := by rw [hm]; exact Nat.le_trans (cntS_le _) (by rw [List.length_take]; omega)
              have gm : (m : Int) ≤ 64 := by omega
              have gm0 : (0 : Int) ≤ (m : Int) := by omega
              clear hcz hm
              have r0 : (0 : Int) ≤ (r : Int) := by omega
              by_cases hrn : r < n
              · have t3 : decide (r < n) = true := by simpa using hrn
                have r1 : (r : Int) < (n : Int) := by omega
                obtain ⟨bb, oo, rfl⟩ := T5.out.addr (by omega)
                obtain ⟨z, hz⟩ : ∃ z, tl[r]? = some z := ⟨tl[r]'(by rw [HNN.out]; exact hrn), List.getElem?_eq_getElem _⟩
                have HZ := Lib.hid hz
                have hz0 := HLV.out z (List.mem_of_getElem? hz)
                obtain ⟨cs1, f1, f2, p0, p1, p2, p3, p4, p5⟩ := slt_all T5.out CZ.out (by simp) hqn HY.out
                obtain ⟨cs2, f3, f4, q00, q01, q02, q03, q04, q05⟩ := slt_all T5.out CZ.out (by simp) hrn HZ.out
                have eqo := p0.symm.trans q00
                injection eqo with eqo
                injection eqo with eq1 eq2 eq3
                subst eq1
                clear q00 eq2 eq3
                obtain ⟨tz, htz⟩ : ∃ tz, setOf S z.li = tz := ⟨_, rfl⟩
                have HTZ := Lib.hid htz
                have HC := Lib.hid (cntS_take (S := S) (t := ty) hz)
                clear hz htz
                by_cases hrq : r = q
                · subst hrq
                  have e1 : z = y := by have := HZ.out; rw [HY.out] at this; injection this with this; exact this.symm
                  subst e1
                  have e2 : tz = ty := by rw [← HTZ.out, HTY.out]
                  subst e2
                  have t4 : ((r : Int) != (r : Int)) = false := by simp
                  have t6 : ((tz : Int) == (tz : Int)) = true := by simp
                  have t6' : (tz == tz) = true := by simp
                  have HP := Lib.hid (show m + 1 = cntS S tz (tl.take (r + 1)) by rw [HC.out, if_pos HTZ.out, HM.out])
                  go_wp2_with fail
                  go_quiet (fail)
                  go_wp2_with fail
                  have CQ := Lib.hid (CZ.out.drewN nq)
                  have pq : (wr.drewN nq).heap[bb]? = _ := p0
                  generalize wr.drewN nq = wq at CQ pq ⊢
                  go_quiet (first | (go_at_call 25; with_reducible exact quiet_same (rgeom_at S z.li tz _ HSS.out hz0 HTZ.out)))
                  go_wp2_with fail
                  go_roundw
                  case rel => exact ⟨r + 1, m + 1, by omega, by go_num, by go_num, HP.out, CQ.out.drewN _⟩
                  case measure => simp [intOf]; omega
                · have t4 : ((r : Int) != (q : Int)) = true := by simp; omega
                  have t4' : (r != q) = true := by simpa using hrq
                  have hto := HTO.out r q z y HZ.out HY.out hrq
                  have t5 : (z.li == y.li) = false := by simpa using hto.1
                  have t7 : (z.us == y.us) = false := by simpa using hto.2
                  clear hto
                  by_cases htt : tz = ty
                  · subst htt
                    have t6 : ((tz : Int) == (tz : Int)) = true := by simp
                    have t6' : (tz == tz) = true := by simp
                    have HP := Lib.hid (show m + 1 = cntS S tz (tl.take (r + 1)) by rw [HC.out, if_pos HTZ.out, HM.out])
                    go_wp2_with fail
                    go_quiet (fail)
                    go_wp2_with fail
                    have CQ := Lib.hid (CZ.out.drewN nq)
                    have pq : (wr.drewN nq).heap[bb]? = _ := p0
                    generalize wr.drewN nq = wq at CQ pq ⊢
                    go_quiet (first | (go_at_call 25; with_reducible exact quiet_same (rgeom_at S z.li tz _ HSS.out hz0 HTZ.out)) | (go_at_call 25; with_reducible exact quiet_same (rgeom_at S y.li tz _ HSS.out hy0 HTY.out)))
                    go_wp2_with fail
                    go_roundw
                    case rel => exact ⟨r + 1, m + 1, by omega, by go_num, by go_num, HP.out, CQ.out.drewN _⟩
                    case measure => simp [intOf]; omega
                  · have t6 : ((tz : Int) == (ty : Int)) = false := by simp; omega
                    have t6' : (tz == ty) = false := by simpa using htt
                    have HP := Lib.hid (show m = cntS S ty (tl.take (r + 1)) by rw [HC.out, if_neg (by rw [HTZ.out]; exact htt), HM.out, Nat.add_zero])
                    go_wp2_with fail
                    go_quiet (fail)
                    go_wp2_with fail
                    have CQ := Lib.hid (CZ.out.drewN nq)
                    have pq : (wr.drewN nq).heap[bb]? = _ := p0
                    generalize wr.drewN nq = wq at CQ pq ⊢
                    go_quiet (first | (go_at_call 25; with_reducible exact quiet_same (rgeom_at S z.li tz _ HSS.out hz0 HTZ.out)) | (go_at_call 25; with_reducible exact quiet_same (rgeom_at S y.li ty _ HSS.out hy0 HTY.out)))
                    go_wp2_with fail
                    go_roundw
                    case rel => exact ⟨r + 1, m, by omega, by go_num, rfl, HP.out, CQ.out.drewN _⟩
                    case measure => simp [intOf]; omega
              · obtain rfl : r = n := by omega
                have t3 : decide (r < r) = false := by simp
                have hmM : m ≤ M := by
                  have := HMA.out ty HTS.out
                  rw [HM.out, ← HNN.out, List.take_length]
                  exact this
                have t8 : decide ((M : Int) < (m : Int)) = false := by simp; omega
                have t8' : decide (M < m) = false := by simp; omega
                go_wp2_with fail
                go_roundw
                case rel => exact ⟨q + 1, by omega, by go_num, CZ.out⟩
                case measure => simp [intOf]; omega
          · obtain rfl : q = n := by omega
            have t2 : decide (q < q) = false := by simp
            have hxq := CY.out.keep HX5.out (by simp)
            have oxq := old hxq
            have BQ := Lib.hid (B5.out.keep CY.out)
            go_wp2_with fail
            refine (amod_ok x.li 64 (by omega) (by omega) wr).mono ?_
            rintro e w6 ⟨rfl, rfl⟩
            generalize amodn x.li 64 = ln
            have l0 : (0 : Int) ≤ (ln : Int) := by omega
            go_wp2_with fail
            refine (aroom_any a b S M ys9 u9 ln wr BQ.out.2.1).mono ?_
            rintro e w6 ⟨rfl, c6⟩
            have C6 := Lib.hid (CY.out.trans c6)
            have B6 := Lib.hid (BQ.out.keep c6)
            clear c6 hxq oxq
            cases hf : roomFree S M ys9 ln
            · by_cases hv : 0 ≤ roomVic S M ys9 ln
              · have HV := Lib.hid (HVI.out ln l0 hf hv)
                obtain ⟨v, hvv⟩ : ∃ v, roomVic S M ys9 ln = v := ⟨_, rfl⟩
                rw [hvv] at HV hv ⊢
                have t9 : decide (v < 0) = false := by simp; omega
                clear hvv hv hf
                go_wp2_with fail
                refine (afind_any a b S M ys9 u9 v w6 B6.out.2.1).mono ?_
                rintro e w7 ⟨rfl, c7⟩
                rw [HV.out.1]
                obtain ⟨y, hyv⟩ : ∃ y, findVal ys9 v = y := ⟨_, rfl⟩
                rw [hyv] at HV ⊢
                have C7 := Lib.hid (C6.out.trans c7)
                have B7 := Lib.hid (B6.out.keep c7)
                have t10 : decide (3 < y.st) = false := by have := HV.out.2.1; simp; omega
                clear hyv c7
                go_wp2_with fail
                have hs8 : (w7.alloc (.cells (slc y) 41)).heap[w7.heap.size]? = some (.cells (slc y) 41 (0, 0)) := by simp
                have C8 := Lib.hid (C7.out.alloc (.cells (slc y) 41))
                have B8 := Lib.hid (B7.out.keep ((Chg.refl [] w7).alloc (.cells (slc y) 41)))
                generalize w7.alloc (.cells (slc y) 41) = w8 at hs8 C8 B8 ⊢
                have HS8 := Lib.hid hs8
                clear hs8
                go_loopw [22] (fun i wz => ∃ r : Nat, r ≤ q ∧ i = .int .i64 r ∧ Chg [] w8 wz) (fun i _ => q - (intOf i).toNat)
                case atStart => exact ⟨0, by omega, rfl, Chg.refl _ _⟩
                case round =>
                  obtain ⟨r, hr, rfl, hcz⟩ := hrel
                  have CZ := Lib.hid hcz
                  have hsz := hcz.keep HS8.out (by simp)
                  have osz := old hsz
                  clear hcz
                  have r0 : (0 : Int) ≤ (r : Int) := by omega
                  by_cases hrn : r < q
                  · have t3 : decide (r < q) = true := by simpa using hrn
                    have r1 : (r : Int) < (q : Int) := by omega
                    obtain ⟨bb, oo, rfl⟩ := T5.out.addr (by omega)
                    obtain ⟨z, hz⟩ : ∃ z, tl[r]? = some z := ⟨tl[r]'(by rw [HNN.out]; exact hrn), List.getElem?_eq_getElem _⟩
                    have HZ := Lib.hid hz
                    have hz0 := HLV.out z (List.mem_of_getElem? hz)
                    obtain ⟨cs2, f3, f4, q00, q01, q02, q03, q04, q05⟩ := slt_all T5.out (C8.out.trans CZ.out) (by simp) hrn HZ.out
                    obtain ⟨tz, htz⟩ : ∃ tz, setOf S z.li = tz := ⟨_, rfl⟩
                    obtain ⟨tn, htn⟩ : ∃ tn, setOf S (ln : Int) = tn := ⟨_, rfl⟩
                    have HTZ := Lib.hid htz
                    have HTN := Lib.hid htn
                    have HVZ := Lib.hid (HV.out.2.2 z (List.mem_of_getElem? hz))
                    clear hz htz htn
                    by_cases hst : z.st ≤ 3
                    · have t11 : decide (z.st ≤ 3) = true := by simpa using hst
                      by_cases htt : tz = tn
                      · subst htt
                        have t6 : ((tz : Int) == (tz : Int)) = true := by simp
                        have t6' : (tz == tz) = true := by simp
                        have t12 : decide (z.us < y.us) = false := by
                          have := HVZ.out hst (by rw [HTZ.out, HTN.out])
                          simp; omega
                        clear hst
                        go_wp2_with fail
                        go_quiet (first | (go_at_call 25; with_reducible exact quiet_same (rgeom_at S z.li tz _ HSS.out hz0 HTZ.out)) | (go_at_call 25; with_reducible exact quiet_same (rgeom_at S ln tz _ HSS.out l0 HTN.out)))
                        go_wp2_with fail
                        go_roundw
                        case rel => exact ⟨r + 1, by omega, by go_num, CZ.out.drewN _⟩
                        case measure => simp [intOf]; omega
                      · have t6 : ((tz : Int) == (tn : Int)) = false := by simp; omega
                        have t6' : (tz == tn) = false := by simpa using htt
                        clear hst
                        go_wp2_with fail
                        go_quiet (first | (go_at_call 25; with_reducible exact quiet_same (rgeom_at S z.li tz _ HSS.out hz0 HTZ.out)) | (go_at_call 25; with_reducible exact quiet_same (rgeom_at S ln tn _ HSS.out l0 HTN.out)))
                        go_wp2_with fail
                        go_roundw
                        case rel => exact ⟨r + 1, by omega, by go_num, CZ.out.drewN _⟩
                        case measure => simp [intOf]; omega
                    · have t11 : decide (z.st ≤ 3) = false := by simpa using hst
                      clear hst
                      go_wp2_with fail
                      go_quiet (fail)
                      go_wp2_with fail
                      go_roundw
                      case rel => exact ⟨r + 1, by omega, by go_num, CZ.out.drewN _⟩
                      case measure => simp [intOf]; omega
                  · obtain rfl : r = q := by omega
                    have t3 : decide (r < r) = false := by simp
                    go_wp2_with fail
                    go_roundw
                    case rel => exact ⟨k + 1, ys9, u9, by omega, by go_num, B8.out.keep CZ.out, O9.out, y0, by omega⟩
                    case measure => simp [intOf]; omega
              · have t9 : decide (roomVic S M ys9 ln < 0) = true := by simp; omega
                clear hv hf
                go_wp2_with fail
                go_roundw
                case rel => exact ⟨k + 1, ys9, u9, by omega, by go_num, B6.out, O9.out, y0, by omega⟩
                case measure => simp [intOf]; omega
            · clear hf
              go_wp2_with fail
              go_roundw
              case rel => exact ⟨k + 1, ys9, u9, by omega, by go_num, B6.out, O9.out, y0, by omega⟩
              case measure => simp [intOf]; omega
    · obtain rfl : k = N := by omega
      have t1 : decide (k < k) = false := by simp
      go_wp2_with (go_at_call 8; refine (wakes_true _).mono ?_; rintro e w5 ⟨rfl, c5⟩; have C5 := Lib.hid c5; clear c5)
      go_ret
      exact ⟨rfl, B.out.1.trans C5.out⟩
end Go.Proofs.Ytdfejijiocfjhaa
