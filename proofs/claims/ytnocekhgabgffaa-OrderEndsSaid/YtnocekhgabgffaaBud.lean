/- A bus in memory. No condition. -/
import Derived.Test.YtnocekhgabgffaaBuc
namespace Go.Proofs.Ytnocekhgabgffaa
open Go.RowKit
set_option linter.unusedVariables false
set_option maxHeartbeats 1000000

set_option maxRecDepth 100000
attribute [local go_sem ↓] append_appS copy_copS clear_clrS make_mkS slice_slS lookup_lookS mput_mputS del_mdelS cell_row frozen_row heap_drew heap_drewN heap_alloc heap_past heap_setCell heap_putRow heap_setB loadEv storeEv loadBe storeBe loadSp storeSp loadNw storeNw loadLine storeLine evc_kd evc_co evc_li evc_wo evc_va bec_fl bec_li bec_wo bec_va nwC_0 nwC_1 spC_0 spC_1
attribute [local go_sem] rowCell_some rowFrozen_some rowHas_some rowIn_some rowPart_full rowPart_lit rowPut_full rowPut_lit rowSet_some size_putRow size_setB run_loadS run_storeS run_appS run_copS run_clrS run_mkS run_slS run_lookS run_mputS run_mdelS loadW_at storeW_at fit_all fit_le one_int one_bool one_pointer one_slice allOne_list putRow_new ne_size1 ne_size2 ne_size3 ne_size4 wideEv wideBe wideSp wideNw wideLine evc_size evc_one evc_ne evc_lit evc_z fold_evc bec_size bec_one bec_lit bec_ne bec_at bec_in spC_size spC_one nwC_size nwC_one nwC_ne nwC_set0 nwC_set1 nwC_lit bec_set0 bec_set1 bec_set2 bec_set3 spC_set0 spC_set1 spC_lit fold_spC spC_ne fold_nwC fold_bec fold_at vs_size vs_one ic_size ic_get
attribute [local simp ↓] heap_drew heap_drewN heap_alloc heap_past heap_setCell heap_putRow heap_setB
attribute [local simp] rowCell_some rowFrozen_some rowHas_some rowIn_some rowPart_full rowPart_lit rowPut_full rowPut_lit rowSet_some size_putRow size_setB fit_all putRow_new ne_size1 ne_size2 ne_size3 ne_size4 evc_size bec_size spC_size nwC_size vs_size fit_le
/-! ### A bus in memory -/
theorem flatten_at {G : List (List Nat)} : ∀ {i : Nat} {g : List Nat}, G[i]? = some g → ∃ R, G.flatten.Perm (g ++ R) ∧ (∀ g', (G.set i g').flatten.Perm (g' ++ R)) ∧ ∀ j h, j ≠ i → G[j]? = some h → ∀ z ∈ h, z ∈ R := by
  induction G with
  | nil => intro i g h; cases h
  | cons a G ih =>
    intro i g h
    cases i with
    | zero =>
      obtain rfl : a = g := by simpa using h
      refine ⟨G.flatten, by simp, fun g' => by simp, fun j k hj hk z hz => ?_⟩
      cases j with
      | zero => exact absurd rfl hj
      | succ j => exact List.mem_flatten.2 ⟨k, List.mem_of_getElem? (by simpa using hk), hz⟩
    | succ i =>
      obtain ⟨R, h1, h2, h3⟩ := ih (by simpa using h)
      refine ⟨a ++ R, ?_, fun g' => ?_, fun j k hj hk z hz => ?_⟩
      · rw [List.flatten_cons]; exact (List.Perm.append_left _ h1).trans (by rw [← List.append_assoc, ← List.append_assoc]; exact List.Perm.append_right _ List.perm_append_comm)
      · rw [List.set_cons_succ, List.flatten_cons]; exact (List.Perm.append_left _ (h2 g')).trans (by rw [← List.append_assoc, ← List.append_assoc]; exact List.Perm.append_right _ List.perm_append_comm)
      · cases j with
        | zero =>
          obtain rfl : a = k := by simpa using hk
          simp [hz]
        | succ j => exact List.mem_append.2 (.inr (h3 j k (by omega) (by simpa using hk) z hz))
def kfn (n : Nat) : Value := .func (.func n) #[] #[]
def kindL : List (Int × Value) := [(1, kfn 44), (2, kfn 45), (3, kfn 46), (4, kfn 47), (5, kfn 48), (6, kfn 49), (7, kfn 50), (8, kfn 51), (9, kfn 52), (10, kfn 52), (11, kfn 53), (12, kfn 54), (13, kfn 55), (14, kfn 56)]
def busc (vol bl cl n kb bp bc m bm : Nat) : Array Value := #[.int .i64 vol, .slice (some ⟨bl, 0, none⟩) n cl, .slice (some ⟨kb, 0, none⟩) n n, .slice (some ⟨bp, 0, none⟩) n n, .slice (some ⟨bc, 0, none⟩) m m, .map (some bm)]
structure BusP (n m : Nat) (w : World) (q : Nat) (F : List Nat) (S : Bs) (bl cl kb bp bc bm : Nat) (xs : List Cx) (G : List (List Nat)) : Prop where
  per : F.Perm ([q, bl, kb, bp, bc, bm] ++ G.flatten)
  nd : F.Nodup
  hq : w.heap[q]? = some (.cells (busc S.vol bl cl n kb bp bc m bm) 89 (0, 0))
  hl : ∃ r, w.heap[bl]? = some (.cells (bk S.ls r) 44 (0, 0))
  hk : w.heap[kb]? = some (.cells (bk S.ks []) 44 (0, 0))
  hp : w.heap[bp]? = some (.cells (ic S.ps) 3 (0, 0))
  hc : w.heap[bc]? = some (.cells (sq Cx.enc xs []) 111 (0, 0))
  hm : MapAt (fun k : Int => Value.int .i64 k) w bm kindL
  lx : xs.length = m
  lc : S.cs.length = m
  lg : G.length = m
  co : ∀ (i : Nat) (x : Cx) (g : List Nat) (c : Bc), xs[i]? = some x → G[i]? = some g → S.cs[i]? = some c → CoM w x g c
def BusM (n m : Nat) (w : World) (q : Nat) (F : List Nat) (S : Bs) : Prop := ∃ bl cl kb bp bc bm xs G, BusP n m w q F S bl cl kb bp bc bm xs G
def BusTo (n m : Nat) (w : World) (q : Nat) (F : List Nat) (S : Bs) (w' : World) : Prop := ∃ F', BusM n m w' q F' S ∧ Chg F w w' ∧ ∀ b ∈ F', b ∈ F ∨ w.heap.size ≤ b
section
variable {n m : Nat} {w w' : World} {q : Nat} {F : List Nat} {S : Bs} {bl cl kb bp bc bm : Nat} {xs : List Cx} {G : List (List Nat)}
theorem BusP.keep {l : List Nat} (h : BusP n m w q F S bl cl kb bp bc bm xs G) (hc : Chg l w w') (hl : ∀ b ∈ F, b ∉ l) : BusP n m w' q F S bl cl kb bp bc bm xs G := by
  have hl' : ∀ b ∈ [q, bl, kb, bp, bc, bm] ++ G.flatten, b ∉ l := fun b hb => hl b (h.per.mem_iff.2 hb)
  obtain ⟨r, hr⟩ := h.hl
  refine ⟨h.per, h.nd, hc.keep h.hq (hl' _ (by simp)), ⟨r, hc.keep hr (hl' _ (by simp))⟩, hc.keep h.hk (hl' _ (by simp)), hc.keep h.hp (hl' _ (by simp)), hc.keep h.hc (hl' _ (by simp)), h.hm.keep hc (hl' _ (by simp)), h.lx, h.lc, h.lg, fun i x g c h1 h2 h3 => (h.co i x g c h1 h2 h3).keep hc (fun b hb => hl' b ?_)⟩
  exact List.mem_append.2 (.inr (List.mem_flatten.2 ⟨g, List.mem_of_getElem? h2, hb⟩))
theorem BusM.keep {l : List Nat} (h : BusM n m w q F S) (hc : Chg l w w') (hl : ∀ b ∈ F, b ∉ l) : BusM n m w' q F S := by
  obtain ⟨bl, cl, kb, bp, bc, bm, xs, G, h⟩ := h
  exact ⟨bl, cl, kb, bp, bc, bm, xs, G, h.keep hc hl⟩
theorem BusP.old (h : BusP n m w q F S bl cl kb bp bc bm xs G) : ∀ b ∈ F, b < w.heap.size := by
  intro b hb
  have hb := h.per.mem_iff.1 hb
  obtain ⟨r, hr⟩ := h.hl
  obtain ⟨o, ho, _⟩ := h.hm
  simp only [List.cons_append, List.nil_append, List.mem_cons] at hb
  rcases hb with rfl | rfl | rfl | rfl | rfl | rfl | hb
  · exact lt_heap h.hq
  · exact lt_heap hr
  · exact lt_heap h.hk
  · exact lt_heap h.hp
  · exact lt_heap h.hc
  · exact lt_heap ho
  · obtain ⟨g, hg, hb⟩ := List.mem_flatten.1 hb
    obtain ⟨i, hi, rfl⟩ := List.mem_iff_getElem.1 hg
    have h1 := h.lx; have h2 := h.lc; have h3 := h.lg
    exact (h.co i (xs[i]'(by omega)) _ (S.cs[i]'(by omega)) (List.getElem?_eq_getElem _) (List.getElem?_eq_getElem _) (List.getElem?_eq_getElem _)).old b hb
theorem BusM.old (h : BusM n m w q F S) : ∀ b ∈ F, b < w.heap.size := by
  obtain ⟨bl, cl, kb, bp, bc, bm, xs, G, h⟩ := h
  exact h.old
theorem BusM.to (h : BusM n m w q F S) (hc : Chg [] w w') : BusTo n m w q F S w' := ⟨F, h.keep hc (by simp), hc.mono (by simp), fun b hb => .inl hb⟩
theorem BusTo.of {w1 : World} (h : BusTo n m w1 q F S w') (hc : Chg [] w w1) : BusTo n m w q F S w' := by
  obtain ⟨F', h1, h2, h3⟩ := h
  exact ⟨F', h1, (hc.mono (by simp)).trans h2, fun b hb => (h3 b hb).imp id (fun h => Nat.le_trans hc.size h)⟩
theorem BusTo.trans {S' : Bs} {w1 : World} {F1 : List Nat} (hM : BusM n m w1 q F1 S') (hc : Chg F w w1) (hF : ∀ b ∈ F1, b ∈ F ∨ w.heap.size ≤ b) (h : BusTo n m w1 q F1 S w') : BusTo n m w q F S w' := by
  obtain ⟨F', h1, h2, h3⟩ := h
  refine ⟨F', h1, hc.trans' h2 hF, fun b hb => ?_⟩
  rcases h3 b hb with h | h
  · exact hF b h
  · exact .inr (Nat.le_trans hc.size h)
theorem BusTo.on {w1 : World} {F1 : List Nat} (h : BusTo n m w1 q F1 S w') (hc : Chg F w w1) (hF : ∀ b ∈ F1, b ∈ F ∨ w.heap.size ≤ b) : BusTo n m w q F S w' := by
  obtain ⟨F', h1, h2, h3⟩ := h
  refine ⟨F', h1, hc.trans' h2 hF, fun b hb => ?_⟩
  rcases h3 b hb with h | h
  · exact hF b h
  · exact .inr (Nat.le_trans hc.size h)
/-- A core of it. -/
theorem BusP.core (h : BusP n m w q F S bl cl kb bp bc bm xs G) {i : Nat} (hi : i < m) : ∃ x g, CoIn w bc i xs x g (S.core i) ∧ G[i]? = some g ∧ S.cs[i]? = some (S.core i) := by
  have h1 := h.lx; have h2 := h.lc; have h3 := h.lg
  have e1 : xs[i]? = some (xs[i]'(by omega)) := List.getElem?_eq_getElem _
  have e2 : G[i]? = some (G[i]'(by omega)) := List.getElem?_eq_getElem _
  have e3 : S.cs[i]? = some (S.core i) := by
    unfold Bs.core
    rw [List.getD_eq_getElem?_getD, List.getElem?_eq_getElem (by omega : i < S.cs.length)]; rfl
  obtain ⟨R, h4, _, _⟩ := flatten_at e2
  have hnd := (h.per.trans (List.Perm.append_left _ h4)).nodup_iff.1 h.nd
  rw [List.nodup_append] at hnd
  refine ⟨_, _, ⟨h.hc, e1, h.co i _ _ _ e1 e2 e3, (List.nodup_append.1 hnd.2.1).1, fun hb => ?_⟩, e2, e3⟩
  exact hnd.2.2 bc (by simp) bc (List.mem_append.2 (.inl hb)) rfl
/-- A core of it has changed. -/
theorem BusP.setc (h : BusP n m w q F S bl cl kb bp bc bm xs G) {i : Nat} {g : List Nat} (hg : G[i]? = some g) {c' : Bc} (ht : CoTo w bc i xs g c' w') : ∃ F' xs' G', BusP n m w' q F' (S.setC i c') bl cl kb bp bc bm xs' G' ∧ Chg F w w' ∧ ∀ b ∈ F', b ∈ F ∨ w.heap.size ≤ b := by
  obtain ⟨x', g', h1, h2, h3, h4, h5⟩ := ht
  obtain ⟨R, hR, hR', hRo⟩ := flatten_at hg
  have hper := h.per.trans (List.Perm.append_left _ hR)
  have hnd := hper.nodup_iff.1 h.nd
  have hF : ∀ b, b ∈ F ↔ b ∈ [q, bl, kb, bp, bc, bm] ++ (g ++ R) := fun b => hper.mem_iff
  have hold := h.old
  have hnd2 := nodup_swap (N := w.heap.size) (F' := g') hnd (fun z hz => by
    refine hold z ((hF z).2 ?_)
    simp only [List.mem_append] at hz ⊢
    rcases hz with hz | hz
    · exact .inl hz
    · exact .inr (.inr hz)) h3 h4
  rw [List.nodup_append] at hnd
  obtain ⟨hn1, hn2, hn3⟩ := hnd
  rw [List.nodup_append] at hn2
  have hbc : ∀ z, z ∈ [q, bl, kb, bp, bm] → z ∉ bc :: g := by
    intro z hz
    have hzg : z ∉ g := fun hg => hn3 z (by simp only [List.mem_cons, List.not_mem_nil, or_false] at hz ⊢; rcases hz with rfl | rfl | rfl | rfl | rfl <;> simp) z (by simp [hg]) rfl
    simp only [List.nodup_cons, List.mem_cons, List.not_mem_nil, or_false, not_or, List.nodup_nil] at hn1
    simp only [List.mem_cons, List.not_mem_nil, or_false] at hz
    simp only [List.mem_cons, not_or]
    refine ⟨?_, hzg⟩
    obtain ⟨⟨a1, a2, a3, a4, a5⟩, ⟨b2, b3, b4, b5⟩, ⟨c3, c4, c5⟩, ⟨d4, d5⟩, e5, _⟩ := hn1
    rcases hz with rfl | rfl | rfl | rfl | rfl
    · exact a4
    · exact b4
    · exact c4
    · exact d4
    · exact Ne.symm e5
  obtain ⟨r, hr⟩ := h.hl
  have hil : i < m := by have := (List.getElem?_eq_some_iff.1 hg).1; have := h.lg; omega
  refine ⟨_, xs.set i x', G.set i g', ⟨List.Perm.append_left _ (List.Perm.refl _), ?_, h5.keep h.hq (hbc q (by simp)), ⟨r, h5.keep hr (hbc _ (by simp))⟩, h5.keep h.hk (hbc _ (by simp)), h5.keep h.hp (hbc _ (by simp)), h1, h.hm.keep h5 (hbc _ (by simp)), by simp [h.lx], by simp [Bs.setC, h.lc], by simp [h.lg], ?_⟩, h5.mono (fun z hz => .inl ((hF z).2 ?_)), fun b hb => ?_⟩
  · exact (List.Perm.append_left _ (hR' g')).nodup_iff.2 hnd2
  · intro j y k d e1 e2 e3
    by_cases hj : j = i
    · subst hj
      have l1 := h.lx; have l2 := h.lc; have l3 := h.lg
      rw [List.getElem?_set_self (by omega)] at e1 e2
      simp only [Bs.setC] at e3
      rw [List.getElem?_set_self (by omega)] at e3
      cases e1; cases e2; cases e3
      exact h2
    · rw [List.getElem?_set_ne (Ne.symm hj)] at e1 e2
      simp only [Bs.setC] at e3
      rw [List.getElem?_set_ne (Ne.symm hj)] at e3
      refine (h.co j y k d e1 e2 e3).keep h5 (fun z hz => ?_)
      have hzR := hRo j k hj e2 z hz
      simp only [List.mem_cons, not_or]
      exact ⟨fun e => hn3 bc (by simp) z (by simp [hzR]) e.symm, fun hg => hn2.2.2 z hg z hzR rfl⟩
  · simp only [List.mem_cons] at hz
    rcases hz with rfl | hz
    · simp
    · simp [hz]
  · have hb := ((List.Perm.append_left [q, bl, kb, bp, bc, bm] (hR' g')).mem_iff).1 hb
    simp only [List.mem_append] at hb
    rcases hb with hb | hb | hb
    · exact .inl ((hF b).2 (by simp only [List.mem_append]; exact .inl hb))
    · rcases h4 b hb with h | h
      · exact .inl ((hF b).2 (by simp only [List.mem_append]; exact .inr (.inl h)))
      · exact .inr h
    · exact .inl ((hF b).2 (by simp only [List.mem_append]; exact .inr (.inr hb)))
/-- The lines have changed; the kept ones; the pushes. -/
theorem BusP.ne (h : BusP n m w q F S bl cl kb bp bc bm xs G) : [q, bl, kb, bp, bc, bm].Nodup ∧ ∀ z ∈ [q, bl, kb, bp, bc, bm], z ∉ G.flatten := by
  have hnd := h.per.nodup_iff.1 h.nd
  rw [List.nodup_append] at hnd
  exact ⟨hnd.1, fun z hz hg => hnd.2.2 z hz z hg rfl⟩
theorem BusP.setl (h : BusP n m w q F S bl cl kb bp bc bm xs G) {ls' : List Int} (hc : Chg [bl] w w') (hl' : ∃ r, w'.heap[bl]? = some (.cells (bk ls' r) 44 (0, 0))) : BusP n m w' q F { S with ls := ls' } bl cl kb bp bc bm xs G := by
  obtain ⟨hn, hg⟩ := h.ne
  simp only [List.nodup_cons, List.mem_cons, List.not_mem_nil, or_false, not_or, List.nodup_nil] at hn
  obtain ⟨⟨a1, a2, a3, a4, a5⟩, ⟨b2, b3, b4, b5⟩, ⟨c3, c4, c5⟩, ⟨d4, d5⟩, e5, _⟩ := hn
  refine ⟨h.per, h.nd, hc.keep h.hq (by simpa using a1), hl', hc.keep h.hk (by simpa using Ne.symm b2), hc.keep h.hp (by simpa using Ne.symm b3), hc.keep h.hc (by simpa using Ne.symm b4), h.hm.keep hc (by simpa using Ne.symm b5), h.lx, h.lc, h.lg, fun i x g c h1 h2 h3 => (h.co i x g c h1 h2 h3).keep hc (fun z hz => ?_)⟩
  simp only [List.mem_singleton]
  rintro rfl
  exact hg z (by simp) (List.mem_flatten.2 ⟨g, List.mem_of_getElem? h2, hz⟩)
theorem BusP.setk (h : BusP n m w q F S bl cl kb bp bc bm xs G) {ks' : List Int} (hc : Chg [kb] w w') (hk' : w'.heap[kb]? = some (.cells (bk ks' []) 44 (0, 0))) : BusP n m w' q F { S with ks := ks' } bl cl kb bp bc bm xs G := by
  obtain ⟨hn, hg⟩ := h.ne
  simp only [List.nodup_cons, List.mem_cons, List.not_mem_nil, or_false, not_or, List.nodup_nil] at hn
  obtain ⟨⟨a1, a2, a3, a4, a5⟩, ⟨b2, b3, b4, b5⟩, ⟨c3, c4, c5⟩, ⟨d4, d5⟩, e5, _⟩ := hn
  obtain ⟨r, hr⟩ := h.hl
  refine ⟨h.per, h.nd, hc.keep h.hq (by simpa using a2), ⟨r, hc.keep hr (by simpa using b2)⟩, hk', hc.keep h.hp (by simpa using Ne.symm c3), hc.keep h.hc (by simpa using Ne.symm c4), h.hm.keep hc (by simpa using Ne.symm c5), h.lx, h.lc, h.lg, fun i x g c h1 h2 h3 => (h.co i x g c h1 h2 h3).keep hc (fun z hz => ?_)⟩
  simp only [List.mem_singleton]
  rintro rfl
  exact hg z (by simp) (List.mem_flatten.2 ⟨g, List.mem_of_getElem? h2, hz⟩)
theorem BusP.setp (h : BusP n m w q F S bl cl kb bp bc bm xs G) {ps' : List Int} (hc : Chg [bp] w w') (hp' : w'.heap[bp]? = some (.cells (ic ps') 3 (0, 0))) : BusP n m w' q F { S with ps := ps' } bl cl kb bp bc bm xs G := by
  obtain ⟨hn, hg⟩ := h.ne
  simp only [List.nodup_cons, List.mem_cons, List.not_mem_nil, or_false, not_or, List.nodup_nil] at hn
  obtain ⟨⟨a1, a2, a3, a4, a5⟩, ⟨b2, b3, b4, b5⟩, ⟨c3, c4, c5⟩, ⟨d4, d5⟩, e5, _⟩ := hn
  obtain ⟨r, hr⟩ := h.hl
  refine ⟨h.per, h.nd, hc.keep h.hq (by simpa using a3), ⟨r, hc.keep hr (by simpa using b3)⟩, hc.keep h.hk (by simpa using c3), hp', hc.keep h.hc (by simpa using Ne.symm d4), h.hm.keep hc (by simpa using Ne.symm d5), h.lx, h.lc, h.lg, fun i x g c h1 h2 h3 => (h.co i x g c h1 h2 h3).keep hc (fun z hz => ?_)⟩
  simp only [List.mem_singleton]
  rintro rfl
  exact hg z (by simp) (List.mem_flatten.2 ⟨g, List.mem_of_getElem? h2, hz⟩)
theorem BusP.mem (h : BusP n m w q F S bl cl kb bp bc bm xs G) : ∀ z ∈ [q, bl, kb, bp, bc, bm], z ∈ F := fun z hz => h.per.mem_iff.2 (List.mem_append.2 (.inl hz))
end
end Go.Proofs.Ytnocekhgabgffaa
