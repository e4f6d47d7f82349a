/- ArrayLast: who goes next. No condition. -/
import Derived.Test.YtdfejijiocfjhaaArrk
namespace Go.Proofs.Ytdfejijiocfjhaa
open Go.RowKit
set_option linter.unusedVariables false
set_option maxHeartbeats 1000000
attribute [local go_sem ↓] append_appS copy_copS clear_clrS make_mkS cell_row frozen_row loadLine storeLine loadSlot storeSlot heap_drew heap_drewN heap_alloc heap_past heap_setCell heap_putRow vs_get slc_st slc_li slc_us
attribute [local go_sem] rowCell_some rowFrozen_some rowHas_some rowIn_some rowPart_full rowPart_lit rowPut_full rowPut_lit rowSet_some size_putRow vs_size vs_one wideLine wideSlot run_loadS run_storeS run_appS run_copS run_clrS run_mkS loadW_at storeW_at fit_all fit_le one_int one_bool one_pointer one_slice allOne_list putRow_new ne_size1 ne_size2 ne_size3 ne_size4 zero8_length line_eq lit8 slc_size slc_one slc_part slc_in fold_slt fold_slc slc_set_us
attribute [local simp ↓] heap_drew heap_drewN heap_alloc heap_past heap_setCell heap_putRow
attribute [local simp] rowCell_some rowFrozen_some rowHas_some rowIn_some rowPart_full rowPart_lit rowPut_full rowPut_lit rowSet_some size_putRow vs_size fit_all putRow_new ne_size1 ne_size2 ne_size3 ne_size4 zero8_length slc_size


/-! ### ArrayLast -/
def zs8 : List Int := [0, 0, 0, 0, 0, 0, 0, 0]
/-- The first loop's slots. -/
def fstAt (j : Nat) : Slt := ⟨1, j, zs8, j + 1, rfl⟩
def fstXs (K i : Nat) : List Slt := (List.range i).map fstAt ++ List.replicate (K - i) sltZ
def ordN (k : Nat) : List Int := (List.range k).map (fun j : Nat => (j : Int))
theorem ordN_len (k : Nat) : (ordN k).length = k := by simp [ordN]
theorem ordN_succ (k : Nat) : ordN k ++ [(k : Int)] = ordN (k + 1) := by simp [ordN, List.range_succ]
theorem fstXs_len {K i : Nat} (h : i ≤ K) : (fstXs K i).length = K := by simp [fstXs]; omega
theorem fstXs_lt {K i j : Nat} (h : j < i) : (fstXs K i)[j]? = some (fstAt j) := by
  unfold fstXs
  rw [List.getElem?_append_left (by simpa using h)]
  simp [h]
theorem fstXs_ge {K i j : Nat} (h : i ≤ j) (hj : j < K) : (fstXs K i)[j]? = some sltZ := by
  unfold fstXs
  rw [List.getElem?_append_right (by simpa using h), List.getElem?_replicate, if_pos (by simp; omega)]
theorem fstXs_mem {K i : Nat} {x : Slt} (hx : x ∈ fstXs K i) : x = sltZ ∨ ∃ j, j < i ∧ x = fstAt j := by
  unfold fstXs at hx
  rcases List.mem_append.1 hx with h | h
  · obtain ⟨j, hj, rfl⟩ := List.mem_map.1 h
    exact .inr ⟨j, List.mem_range.1 hj, rfl⟩
  · exact .inl (List.eq_of_mem_replicate h)
theorem set1 (li : Int) : setOf 1 li = 0 := by unfold setOf; exact Nat.mod_one _
theorem seg_one {K : Nat} {xs : List Slt} (h : xs.length = K) (li : Int) : seg K xs (setOf 1 li) = xs := by
  rw [set1]
  unfold seg
  rw [Nat.zero_mul, List.drop_zero, List.take_of_length_le (by omega)]
theorem fst_set {K i : Nat} (h : i < K) : setXs 1 K (fstXs K i) i i 1 zs8 rfl = fstXs K (i + 1) ∧ setVal 1 K (fstXs K i) i 1 = 0 ∧ setU 1 K (fstXs K i) i i 1 = i + 1 := by
  have hl := fstXs_len (K := K) (i := i) (by omega)
  have hb : ¬ badSet (i : Int) 1 := by unfold badSet; omega
  have h1 : (fstXs K i).findIdx (pLine i) = (fstXs K i).length := by
    apply List.findIdx_eq_length.2
    intro x hx
    rcases fstXs_mem hx with rfl | ⟨j, hj, rfl⟩
    · rfl
    · simp [pLine, fstAt]; omega
  have h2 : (fstXs K i).findIdx pFree = i := by
    refine findIdx_hit (fstXs_ge (Nat.le_refl _) h) rfl ?_
    intro x hx
    obtain ⟨j, hj, rfl⟩ := List.mem_take_iff_getElem.1 hx
    have h3 := fstXs_lt (K := K) (i := i) (j := j) (by omega)
    rw [List.getElem?_eq_getElem (by omega)] at h3
    injection h3 with h3
    rw [h3]; rfl
  have hp : place 1 K (fstXs K i) i = i := by
    unfold place
    rw [h1, if_neg (by omega), seg_one hl, h2, if_pos h, set1]
    omega
  unfold setXs setVal setU
  rw [if_neg hb, if_neg hb, if_neg hb, hp, hl, if_pos h, if_pos h]
  refine ⟨?_, rfl, rfl⟩
  apply List.ext_getElem?
  intro j
  rw [List.getElem?_set]
  split
  · rename_i e
    subst e
    rw [if_pos (by rw [hl]; exact h), fstXs_lt (by omega)]
    rfl
  · rename_i e
    rcases Nat.lt_or_ge j i with h3 | h3
    · rw [fstXs_lt h3, fstXs_lt (by omega)]
    · rcases Nat.lt_or_ge j K with h4 | h4
      · rw [fstXs_ge h3 h4, fstXs_ge (by omega) h4]
      · rw [List.getElem?_eq_none (by omega), List.getElem?_eq_none (by rw [fstXs_len (by omega)]; omega)]

/-- All slots are full, in one set; the lines by the order in which they were used. -/
structure LastAt (K : Nat) (xs : List Slt) (u : Int) (ord : List Int) : Prop where
  good : Good 1 K xs
  full : ord.length = K
  live : ∀ x ∈ xs, x.st = 1 ∨ x.st = 2
  memb : ∀ x ∈ xs, x.li ∈ ord
  uniq : ∀ (i j : Nat) (x y : Slt), xs[i]? = some x → xs[j]? = some y → x.li = y.li → i = j
  there : ∀ l ∈ ord, ∃ x ∈ xs, x.li = l
  nodup : ord.Nodup
  sorted : ord.Pairwise (fun l m => ∀ x ∈ xs, ∀ y ∈ xs, x.li = l → y.li = m → x.us < y.us)
  top : ∀ x ∈ xs, x.us ≤ u
theorem LastAt.len {K : Nat} {xs : List Slt} {u : Int} {ord : List Int} (h : LastAt K xs u ord) : xs.length = K := by rw [h.good.len, Nat.one_mul]
theorem LastAt.first {K : Nat} (h1 : 1 ≤ K) (h8 : K ≤ 8) : LastAt K (fstXs K K) K (ordN K) := by
  have hl := fstXs_len (K := K) (i := K) (Nat.le_refl _)
  have hm : ∀ x ∈ fstXs K K, ∃ j, j < K ∧ x = fstAt j := by
    intro x hx
    obtain ⟨j, hj, rfl⟩ := List.getElem_of_mem hx
    have h3 := fstXs_lt (K := K) (i := K) (j := j) (by omega)
    rw [List.getElem?_eq_getElem hj] at h3
    injection h3 with h3
    exact ⟨j, by omega, h3⟩
  refine ⟨⟨.inl rfl, h1, h8, by omega, ?_⟩, ordN_len K, ?_, ?_, ?_, ?_, ?_, ?_, ?_⟩
  · intro i x hx h0
    have hi := (List.getElem?_eq_some_iff.1 hx).1
    rw [fstXs_lt (by omega)] at hx
    injection hx with hx
    subst hx
    refine ⟨by simp [fstAt], ?_⟩
    rw [Nat.div_eq_of_lt (by omega), set1]
  · intro x hx
    obtain ⟨j, _, rfl⟩ := hm x hx
    exact .inl rfl
  · intro x hx
    obtain ⟨j, hj, rfl⟩ := hm x hx
    exact List.mem_map.2 ⟨j, List.mem_range.2 hj, rfl⟩
  · intro i j x y hx hy e
    have hi := (List.getElem?_eq_some_iff.1 hx).1
    have hj := (List.getElem?_eq_some_iff.1 hy).1
    rw [fstXs_lt (by omega)] at hx hy
    injection hx with hx
    injection hy with hy
    subst hx; subst hy
    simp [fstAt] at e
    omega
  · intro l hl2
    obtain ⟨j, hj, rfl⟩ := List.mem_map.1 hl2
    have hj := List.mem_range.1 hj
    exact ⟨fstAt j, List.mem_of_getElem? (fstXs_lt hj), rfl⟩
  · unfold ordN List.Nodup
    rw [List.pairwise_map]
    exact List.Pairwise.imp (fun hab e => hab (by omega)) (List.nodup_range (n := K))
  · unfold ordN
    rw [List.pairwise_map]
    refine List.Pairwise.imp ?_ List.pairwise_lt_range
    intro i j hij x hx y hy e1 e2
    obtain ⟨i', _, rfl⟩ := hm x hx
    obtain ⟨j', _, rfl⟩ := hm y hy
    simp only [fstAt] at e1 e2 ⊢
    omega
  · intro x hx
    obtain ⟨j, hj, rfl⟩ := hm x hx
    simp only [fstAt]
    omega
/-- A slot is used anew, or has another line now: that one is the last. -/
theorem LastAt.turn {K : Nat} {xs : List Slt} {u : Int} {ord : List Int} (h : LastAt K xs u ord) {p : Nat} {x : Slt} (hp : xs[p]? = some x) (y : Slt) (hy : y.st = 1 ∨ y.st = 2) (hus : y.us = u + 1) (h0 : 0 ≤ y.li) (hf : y.li = x.li ∨ y.li ∉ ord) :
    LastAt K (xs.set p y) (u + 1) (ord.filter (· != x.li) ++ [y.li]) := by
  have hpl := (List.getElem?_eq_some_iff.1 hp).1
  have hxm : x ∈ xs := List.mem_of_getElem? hp
  have hxo := h.memb x hxm
  have hset : ∀ (i : Nat) (z : Slt), (xs.set p y)[i]? = some z → (i = p ∧ z = y) ∨ (i ≠ p ∧ xs[i]? = some z) := by
    intro i z hz
    rw [List.getElem?_set] at hz
    split at hz
    · rename_i e
      first | rw [if_pos hpl] at hz | skip
      injection hz with hz
      exact .inl ⟨e.symm, hz.symm⟩
    · rename_i e
      exact .inr ⟨fun e2 => e e2.symm, hz⟩
  have hmem : ∀ z ∈ xs.set p y, z = y ∨ (z ∈ xs ∧ z.li ≠ x.li) := by
    intro z hz
    obtain ⟨i, hi⟩ := List.getElem?_of_mem hz
    rcases hset i z hi with ⟨_, e⟩ | ⟨e, hzi⟩
    · exact .inl e
    · exact .inr ⟨List.mem_of_getElem? hzi, fun e2 => e (h.uniq i p z x hzi hp e2)⟩
  have hne : ∀ z ∈ xs, z.li ≠ x.li → z.li ≠ y.li := by
    intro z hz hzx e
    rcases hf with h1 | h1
    · exact hzx (e.trans h1)
    · exact h1 (by rw [← e]; exact h.memb z hz)
  have hfy : y.li ∉ ord.filter (· != x.li) := by
    intro hm
    rw [List.mem_filter] at hm
    rcases hf with h1 | h1
    · rw [h1] at hm; simp at hm
    · exact h1 hm.1
  refine ⟨h.good.put p y (fun _ => ⟨h0, ?_⟩), ?_, ?_, ?_, ?_, ?_, ?_, ?_, ?_⟩
  · rw [Nat.div_eq_of_lt (by rw [← h.len]; exact hpl), set1]
  · have e1 := h.nodup.erase_eq_filter x.li
    rw [List.length_append, ← e1, List.length_erase_of_mem hxo, h.full]
    have := h.good.way1
    simp; omega
  · intro z hz
    rcases hmem z hz with rfl | ⟨hz, _⟩
    · exact hy
    · exact h.live z hz
  · intro z hz
    rcases hmem z hz with rfl | ⟨hz, hzx⟩
    · simp
    · exact List.mem_append_left _ (List.mem_filter.2 ⟨h.memb z hz, by simpa using hzx⟩)
  · intro i j z t hz ht e
    rcases hset i z hz with ⟨e1, rfl⟩ | ⟨e1, hz'⟩
    · rcases hset j t ht with ⟨e2, rfl⟩ | ⟨e2, ht'⟩
      · omega
      · exfalso
        have htx : t.li ≠ x.li := fun e3 => e2 (h.uniq j p t x ht' hp e3)
        exact hne t (List.mem_of_getElem? ht') htx e.symm
    · rcases hset j t ht with ⟨e2, rfl⟩ | ⟨e2, ht'⟩
      · exfalso
        have hzx : z.li ≠ x.li := fun e3 => e1 (h.uniq i p z x hz' hp e3)
        exact hne z (List.mem_of_getElem? hz') hzx e
      · exact h.uniq i j z t hz' ht' e
  · intro l hl
    rcases List.mem_append.1 hl with hl | hl
    · rw [List.mem_filter] at hl
      obtain ⟨z, hz, rfl⟩ := h.there l hl.1
      obtain ⟨i, hi⟩ := List.getElem?_of_mem hz
      have hip : p ≠ i := by
        intro e
        subst e
        rw [hp] at hi
        injection hi with hi
        rw [hi] at hl
        simp at hl
      exact ⟨z, List.mem_of_getElem? (by rw [List.getElem?_set_ne hip]; exact hi), rfl⟩
    · rw [List.mem_singleton.1 hl]
      exact ⟨y, List.mem_of_getElem? (List.getElem?_set_self hpl), rfl⟩
  · rw [List.nodup_append]
    refine ⟨h.nodup.filter _, by simp, ?_⟩
    intro a ha b hb
    rw [List.mem_singleton.1 hb]
    intro e
    exact hfy (by rw [← e]; exact ha)
  · rw [List.pairwise_append]
    refine ⟨?_, by simp, ?_⟩
    · have h1 := h.sorted.filter (· != x.li)
      refine h1.imp_of_mem ?_
      intro l m hl hm hlm z hz t ht e1 e2
      rcases hmem z hz with rfl | ⟨hz, _⟩
      · exact absurd (by rw [e1]; exact hl) hfy
      · rcases hmem t ht with rfl | ⟨ht, _⟩
        · exact absurd (by rw [e2]; exact hm) hfy
        · exact hlm z hz t ht e1 e2
    · intro l hl m hm z hz t ht e1 e2
      rw [List.mem_singleton.1 hm] at e2
      have hzl : z.us ≤ u := by
        rcases hmem z hz with rfl | ⟨hz, _⟩
        · exact absurd (by rw [e1]; exact hl) hfy
        · exact h.top z hz
      have htu : t.us = u + 1 := by
        rcases hmem t ht with rfl | ⟨ht, htx⟩
        · exact hus
        · exact absurd e2 (hne t ht htx)
      omega
  · intro z hz
    rcases hmem z hz with rfl | ⟨hz, _⟩
    · omega
    · have := h.top z hz; omega
theorem LastAt.at {K : Nat} {xs : List Slt} {u : Int} {ord : List Int} (h : LastAt K xs u ord) {l : Int} (hl : l ∈ ord) : ∃ (p : Nat) (x : Slt), xs.findIdx (pLine l) = p ∧ xs[p]? = some x ∧ x.li = l ∧ p < xs.length ∧ 0 ≤ l := by
  obtain ⟨z, hz, hzl⟩ := h.there l hl
  rcases hit_or (pLine l) xs with ⟨i, y, e1, e2, e3, e4, e5, e6⟩ | ⟨e1, e2, e3⟩
  · have := pLine_yes e4
    exact ⟨i, y, e2, e3, this.2, e5, by rw [← this.2]; exact (h.good.home i y e3 this.1).1⟩
  · exfalso
    have h1 := e3 z hz
    have h2 : z.st ≠ 0 := by rcases h.live z hz with h3 | h3 <;> omega
    simp [pLine, hzl, h2] at h1
theorem LastAt.touch {K : Nat} {xs : List Slt} {u : Int} {ord : List Int} (h : LastAt K xs u ord) {l : Int} (hl : l ∈ ord) : LastAt K (touchXs xs u l) (u + 1) (ord.filter (· != l) ++ [l]) ∧ touchU xs u l = u + 1 := by
  obtain ⟨p, x, h1, h2, h3, h4, h5⟩ := h.at hl
  unfold touchXs touchU
  rw [h1, h2, if_pos h4]
  refine ⟨?_, rfl⟩
  have := h.turn h2 (x.use (u + 1)) (h.live x (List.mem_of_getElem? h2)) rfl (by show 0 ≤ x.li; omega) (.inl rfl)
  have e : (x.use (u + 1)).li = x.li := rfl
  rw [e, h3] at this
  exact this
theorem LastAt.out {K : Nat} {xs : List Slt} {u : Int} {v : Int} {t : List Int} (h : LastAt K xs u (v :: t)) (li : Int) (hli : 0 ≤ li) : roomFree 1 K xs li = false ∧ roomVic 1 K xs li = v ∧ dropVal xs v = true := by
  have hs := seg_one h.len li
  have hfr : xs.findIdx pFree = xs.length := by
    apply List.findIdx_eq_length.2
    intro x hx
    rcases h.live x hx with h3 | h3 <;> simp [pFree, h3]
  have hk : ¬ xs.length < K := by rw [h.len]; omega
  have hv : eld xs = v := by
    have hpos : ∀ y ∈ xs, atRest y.st = true → 0 ≤ y.li := by
      intro y hy _
      obtain ⟨i, hi⟩ := List.getElem?_of_mem hy
      exact (h.good.home i y hi (by rcases h.live y hy with h3 | h3 <;> omega)).1
    obtain ⟨x, hx, hxv⟩ := h.there v (by simp)
    have hrx : atRest x.st = true := by rcases h.live x hx with h3 | h3 <;> rw [h3] <;> rfl
    rcases eldS_pick xs hpos with ⟨_, e2⟩ | ⟨y, y1, y2, y3, y4⟩
    · rw [e2 x hx] at hrx; cases hrx
    · unfold eld
      rw [y3]
      have h1 := h.memb y y1
      rcases List.mem_cons.1 h1 with h2 | h2
      · exact h2
      · exfalso
        have h3 := (List.pairwise_cons.1 h.sorted).1 y.li h2 x hx y y1 hxv rfl
        have := y4 x hx hrx
        omega
  obtain ⟨p, x, h1, h2, h3, h4, h5⟩ := h.at (l := v) (by simp)
  refine ⟨?_, ?_, ?_⟩
  · unfold roomFree
    rw [hs, hfr]
    simp [hk]
  · unfold roomVic
    rw [hs, hfr, if_neg (by omega), if_neg hk, hv]
  · unfold dropVal
    rw [h1]
    simpa using h4
theorem LastAt.next {K : Nat} {xs : List Slt} {u : Int} {v : Int} {t : List Int} (h : LastAt K xs u (v :: t)) (f : Int) (hf : f ∉ v :: t) (f0 : 0 ≤ f) :
    LastAt K (setXs 1 K (dropXs xs v) u f 2 zs8 rfl) (u + 1) (t ++ [f]) ∧ setVal 1 K (dropXs xs v) f 2 = 0 ∧ setU 1 K (dropXs xs v) u f 2 = u + 1 := by
  obtain ⟨p, x, h1, h2, h3, h4, h5⟩ := h.at (l := v) (by simp)
  have hb : ¬ badSet f 2 := by unfold badSet; omega
  have hd : dropXs xs v = xs.set p sltZ := by unfold dropXs; rw [h1]
  have hl : (xs.set p sltZ).length = K := by rw [List.length_set, h.len]
  have hno : (xs.set p sltZ).findIdx (pLine f) = (xs.set p sltZ).length := by
    apply List.findIdx_eq_length.2
    intro z hz
    rcases List.mem_or_eq_of_mem_set hz with hz | rfl
    · have hzf : z.li ≠ f := fun e => hf (by rw [← e]; exact h.memb z hz)
      simp [pLine, hzf]
    · rfl
  have hfr : (xs.set p sltZ).findIdx pFree = p := by
    refine findIdx_hit (List.getElem?_set_self h4) rfl ?_
    intro z hz
    obtain ⟨j, hj, rfl⟩ := List.mem_take_iff_getElem.1 hz
    have hjl : j < (xs.set p sltZ).length := by omega
    have hzj : (xs.set p sltZ)[j]? = some (xs.set p sltZ)[j] := List.getElem?_eq_getElem hjl
    rw [List.getElem?_set_ne (by omega)] at hzj
    rcases h.live _ (List.mem_of_getElem? hzj) with h6 | h6 <;> simp [pFree, h6]
  have hp : place 1 K (xs.set p sltZ) f = p := by
    unfold place
    rw [hno, if_neg (by omega), seg_one hl, hfr, if_pos (by rw [← h.len]; exact h4), set1]
    omega
  rw [hd]
  unfold setXs setVal setU
  rw [if_neg hb, if_neg hb, if_neg hb, hp, List.length_set, if_pos h4, if_pos h4, List.set_set]
  refine ⟨?_, rfl, rfl⟩
  have := h.turn h2 ⟨2, f, zs8, u + 1, rfl⟩ (.inr rfl) rfl f0 (.inr hf)
  have e : (v :: t).filter (· != x.li) = t := by
    rw [h3, List.filter_cons]
    have hn := List.nodup_cons.1 h.nodup
    rw [if_neg (by simp)]
    rw [List.filter_eq_self]
    intro a ha
    have : a ≠ v := fun e => hn.1 (by rw [← e]; exact ha)
    simpa using this
  rw [e] at this
  exact this
end Go.Proofs.Ytdfejijiocfjhaa
