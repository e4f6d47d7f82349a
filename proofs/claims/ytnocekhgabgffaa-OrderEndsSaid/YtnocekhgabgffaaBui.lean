/- The flushes of a core that were not answered, in memory. No condition. -/
import Derived.Test.YtnocekhgabgffaaBuh
namespace Go.Proofs.Ytnocekhgabgffaa
open Go.RowKit
set_option linter.unusedVariables false
set_option maxHeartbeats 1000000

set_option maxRecDepth 100000
attribute [local go_sem ↓] append_appS copy_copS clear_clrS make_mkS slice_slS lookup_lookS mput_mputS del_mdelS cell_row frozen_row heap_drew heap_drewN heap_alloc heap_past heap_setCell heap_putRow heap_setB loadEv storeEv loadBe storeBe loadSp storeSp loadNw storeNw loadLine storeLine evc_kd evc_co evc_li evc_wo evc_va bec_fl bec_li bec_wo bec_va nwC_0 nwC_1 spC_0 spC_1
attribute [local go_sem] rowCell_some rowFrozen_some rowHas_some rowIn_some rowPart_full rowPart_lit rowPut_full rowPut_lit rowSet_some size_putRow size_setB run_loadS run_storeS run_appS run_copS run_clrS run_mkS run_slS run_lookS run_mputS run_mdelS loadW_at storeW_at fit_all fit_le one_int one_bool one_pointer one_slice allOne_list putRow_new ne_size1 ne_size2 ne_size3 ne_size4 wideEv wideBe wideSp wideNw wideLine evc_size evc_one evc_ne evc_lit evc_z fold_evc bec_size bec_one bec_lit bec_ne bec_at bec_in spC_size spC_one nwC_size nwC_one nwC_ne nwC_set0 nwC_set1 nwC_lit bec_set0 bec_set1 bec_set2 bec_set3 spC_set0 spC_set1 spC_lit fold_spC spC_ne fold_nwC fold_bec fold_at vs_size vs_one ic_size ic_get
attribute [local simp ↓] heap_drew heap_drewN heap_alloc heap_past heap_setCell heap_putRow heap_setB
attribute [local simp] rowCell_some rowFrozen_some rowHas_some rowIn_some rowPart_full rowPart_lit rowPut_full rowPut_lit rowSet_some size_putRow size_setB fit_all putRow_new ne_size1 ne_size2 ne_size3 ne_size4 evc_size bec_size spC_size nwC_size vs_size fit_le
def hsZ : Hs := ⟨[], none, 0, []⟩
def hsOf (k : Int) (hs : List (Int × Hs)) : Hs := (lookA k hs).getD hsZ
theorem foot_at (k : Int) : ∀ hs : List (Int × Hs), ∃ R, (foot hs).Perm ((hsOf k hs).F ++ R) ∧ (∀ h', (foot (putA k h' hs)).Perm (h'.F ++ R) ∧ ∀ p ∈ putA k h' hs, p = (k, h') ∨ p ∈ hs ∧ ∀ z ∈ p.2.F, z ∈ R) ∧
    ∀ h', (foot (dropA k (putA k h' hs))).Perm R ∧ ∀ p ∈ dropA k (putA k h' hs), p ∈ hs ∧ ∀ z ∈ p.2.F, z ∈ R
  | [] => ⟨[], by simp [foot, hsOf, lookA, hsZ], fun h' => ⟨by simp [foot, putA], fun p hp => by simp [putA] at hp; exact .inl hp⟩, fun h' => ⟨by simp [foot, putA, dropA], fun p hp => by simp [putA, dropA] at hp⟩⟩
  | (a, u) :: hs => by
    by_cases hk : a = k
    · have e0 : hsOf k ((a, u) :: hs) = u := by simp [hsOf, lookA, hk]
      rw [e0]
      have hR : ∀ p ∈ hs, ∀ z ∈ p.2.F, z ∈ foot hs := fun p hp z hz => List.mem_flatten.2 ⟨_, List.mem_map.2 ⟨p, hp, rfl⟩, hz⟩
      refine ⟨foot hs, List.Perm.refl _, fun h' => ?_, fun h' => ?_⟩
      · unfold putA; rw [if_pos hk]
        refine ⟨by rw [foot_cons], fun p hp => ?_⟩
        rcases List.mem_cons.1 hp with h | h
        · exact .inl h
        · exact .inr ⟨List.mem_cons_of_mem _ h, hR p h⟩
      · unfold putA; rw [if_pos hk]; unfold dropA; rw [if_pos rfl]
        exact ⟨List.Perm.refl _, fun p hp => ⟨List.mem_cons_of_mem _ hp, hR p hp⟩⟩
    · obtain ⟨R, h1, h2, h3⟩ := foot_at k hs
      have e0 : hsOf k ((a, u) :: hs) = hsOf k hs := by simp [hsOf, lookA, hk]
      rw [e0]
      refine ⟨u.F ++ R, ?_, fun h' => ?_, fun h' => ?_⟩
      · rw [foot_cons]; exact ((List.Perm.append_left _ h1).trans (by rw [← List.append_assoc, ← List.append_assoc]; exact List.Perm.append_right _ List.perm_append_comm))
      · unfold putA; rw [if_neg hk]
        refine ⟨by rw [foot_cons]; exact ((List.Perm.append_left _ (h2 h').1).trans (by rw [← List.append_assoc, ← List.append_assoc]; exact List.Perm.append_right _ List.perm_append_comm)), fun p hp => ?_⟩
        rcases List.mem_cons.1 hp with h | h
        · subst h; exact .inr ⟨List.mem_cons_self, fun z hz => by simp at hz; simp [hz]⟩
        · rcases (h2 h').2 p h with h | ⟨h, h4⟩
          · exact .inl h
          · exact .inr ⟨List.mem_cons_of_mem _ h, fun z hz => List.mem_append.2 (.inr (h4 z hz))⟩
      · unfold putA; rw [if_neg hk]; unfold dropA; rw [if_neg hk]
        refine ⟨by rw [foot_cons]; exact List.Perm.append_left _ (h3 h').1, fun p hp => ?_⟩
        rcases List.mem_cons.1 hp with h | h
        · subst h; exact ⟨List.mem_cons_self, fun z hz => by simp at hz; simp [hz]⟩
        · obtain ⟨h, h4⟩ := (h3 h').2 p h
          exact ⟨List.mem_cons_of_mem _ h, fun z hz => List.mem_append.2 (.inr (h4 z hz))⟩
theorem CoIn.madeT {w w' : World} {bc i : Nat} {xs : List Cx} {x : Cx} {g : List Nat} {c : Bc} (h : CoIn w bc i xs x g c) {Fb : List Nat} {hs hs2 : List (Int × Hs)} (hF : g.Perm (x.ms :: x.mt :: (Fb ++ foot hs)))
    (hv : Vq 4 125 Be.enc w Fb x.A x.cap c.buf) (hm : MapAt spV w x.ms (onA nwV c.sm)) (hvt : ∀ p ∈ hs, Vq 1 3 intEnc w p.2.F p.2.A p.2.cap p.2.xs)
    {F0 F2 R : List Nat} (hR : (foot hs).Perm (F0 ++ R)) (hR2 : (foot hs2).Perm (F2 ++ R)) (hF2 : ∀ z ∈ F2, z ∈ F0 ∨ w.heap.size ≤ z) (hn2 : F2.Nodup) (hc : Chg (x.mt :: F0) w w')
    (hm' : MapAt (fun k : Int => Value.int .i64 k) w' x.mt (onA Hs.val hs2)) (hall : ∀ p ∈ hs2, (Vq 1 3 intEnc w' p.2.F p.2.A p.2.cap p.2.xs) ∨ p ∈ hs ∧ ∀ z ∈ p.2.F, z ∈ R) : CoTo w bc i xs g { c with tm := onA Hs.xs hs2 } w' := by
  obtain ⟨hb, hx, hco, nd, nb⟩ := h
  have hog : ∀ b ∈ g, b < w.heap.size := fun b hb => (hco.old b hb).lt
  have hper : g.Perm (([x.ms, x.mt] ++ Fb) ++ (F0 ++ R)) := hF.trans (by
    have := List.Perm.append_left ([x.ms, x.mt] ++ Fb) hR
    simpa using this)
  have hg : ∀ z, z ∈ g ↔ z ∈ ([x.ms, x.mt] ++ Fb) ++ (F0 ++ R) := fun z => hper.mem_iff
  have hnd := hper.nodup_iff.1 nd
  have hnd2 := nodup_swap (N := w.heap.size) (F' := F2) hnd (fun z hz => hog z ((hg z).2 (by
    simp only [List.mem_append] at hz ⊢
    rcases hz with hz | hz
    · exact .inl hz
    · exact .inr (.inr hz)))) hn2 hF2
  rw [List.nodup_append] at hnd
  obtain ⟨ha, hb2, hd⟩ := hnd
  rw [List.nodup_append] at hb2
  simp only [List.cons_append, List.nil_append, List.nodup_cons, List.mem_cons, not_or] at ha
  have hmt : x.mt ∈ g := (hg _).2 (by simp)
  have hF0 : ∀ z ∈ F0, z ∈ g := fun z hz => (hg z).2 (by simp [hz])
  refine ⟨x, x.ms :: x.mt :: (Fb ++ foot hs2), ?_, ⟨hco.n, hco.st, hco.la, Fb, hs2, List.Perm.refl _, hv.keep hc (fun z hz => ?_), hm.keep hc ?_, hm', rfl, fun p hp => ?_⟩, ?_, fun z hz => ?_, hc.mono (fun z hz => .inl ?_)⟩
  · have e : xs.set i x = xs := by
      apply List.ext_getElem?
      intro j
      rw [List.getElem?_set]
      split
      · rename_i e; subst e
        split
        · exact hx.symm
        · rename_i h; exact absurd (List.getElem?_eq_some_iff.1 hx).1 h
      · rfl
    rw [e]
    refine hc.keep hb ?_
    simp only [List.mem_cons, not_or]
    exact ⟨fun e => nb (e ▸ hmt), fun h => nb (hF0 _ h)⟩
  · simp only [List.mem_cons, not_or]
    exact ⟨fun e => ha.2.1 (e ▸ hz), fun h => hd z (by simp [hz]) z (by simp [h]) rfl⟩
  · simp only [List.mem_cons, not_or]
    exact ⟨ha.1.1, fun h => hd x.ms (by simp) x.ms (by simp [h]) rfl⟩
  · rcases hall p hp with h | ⟨h1, h2⟩
    · exact h
    · refine (hvt p h1).keep hc (fun z hz => ?_)
      have hzR := h2 z hz
      simp only [List.mem_cons, not_or]
      exact ⟨fun e => hd x.mt (by simp) z (by simp [hzR]) e.symm, fun h => hb2.2.2 z h z hzR rfl⟩
  · refine (List.Perm.nodup_iff ?_).2 hnd2
    have := List.Perm.append_left ([x.ms, x.mt] ++ Fb) hR2
    simpa using this
  · simp only [List.mem_cons, List.mem_append] at hz
    rcases hz with rfl | rfl | hz | hz
    · exact .inl ((hg _).2 (by simp))
    · exact .inl hmt
    · exact .inl ((hg z).2 (by simp [hz]))
    · rcases List.mem_append.1 (hR2.mem_iff.1 hz) with h | h
      · exact (hF2 z h).imp (hF0 z) id
      · exact .inl ((hg z).2 (by simp [h]))
  · simp only [List.mem_cons] at hz ⊢
    rcases hz with rfl | hz
    · exact .inr hmt
    · exact .inr (hF0 z hz)
theorem look_tm {mt : Nat} {hs : List (Int × Hs)} {o : Obj} (ho : IsMapO (fun k : Int => Value.int .i64 k) o (onA Hs.val hs)) (l : Int) :
    ∀ w', w'.heap[mt]? = some o → lookR Try.prog 109 (.map (some mt)) (.int .i64 l) false w' = .ok (.slice (hsOf l hs).A (hsOf l hs).xs.length (hsOf l hs).cap) w' := by
  intro w' h
  have := lookR_at key_int Try.underlying109 zero_ints ho l w' h
  rw [lookA_on] at this
  refine this.trans ?_
  unfold hsOf
  cases lookA l hs <;> rfl
theorem put_tm {mt : Nat} {hs : List (Int × Hs)} {o : Obj} (ho : IsMapO (fun k : Int => Value.int .i64 k) o (onA Hs.val hs)) (l : Int) (h : Hs) :
    ∃ o', IsMapO (fun k : Int => Value.int .i64 k) o' (onA Hs.val (putA l h hs)) ∧ ∀ w', w'.heap[mt]? = some o → mputR Try.prog 109 (.map (some mt)) (.int .i64 l) (.slice h.A h.xs.length h.cap) w' = .ok () (setB w' mt o') := by
  obtain ⟨o', h1, h2⟩ := mputR_at (b := mt) key_int Try.underlying109 ho l h.val
  rw [putA_on] at h1
  exact ⟨o', h1, h2⟩
theorem del_tm {mt : Nat} {hs : List (Int × Hs)} {o : Obj} (ho : IsMapO (fun k : Int => Value.int .i64 k) o (onA Hs.val hs)) (l : Int) (ty : TypeId) :
    ∃ o', IsMapO (fun k : Int => Value.int .i64 k) o' (onA Hs.val (dropA l hs)) ∧ ∀ w', w'.heap[mt]? = some o → mdelR Try.prog #[109, 3] ty #[.map (some mt), .int .i64 l] w' = .ok (.tuple #[]) (setB w' mt o') := by
  obtain ⟨o', h1, h2⟩ := mdelR_at (b := mt) key_int Try.underlying109 ho l ty 3
  rw [dropA_on] at h1
  exact ⟨o', h1, h2⟩
theorem hsOf_tm {hs : List (Int × Hs)} {c : Bc} (h : onA Hs.xs hs = c.tm) (l : Int) : (hsOf l hs).xs = sentOf c l := by
  unfold sentOf hsOf
  rw [← h, lookA_on]
  cases lookA l hs <;> rfl
theorem hsOf_vq {hs : List (Int × Hs)} {w : World} (h : ∀ p ∈ hs, Vq 1 3 intEnc w p.2.F p.2.A p.2.cap p.2.xs) (l : Int) : Vq 1 3 intEnc w (hsOf l hs).F (hsOf l hs).A (hsOf l hs).cap (hsOf l hs).xs := by
  unfold hsOf
  cases e : lookA l hs with
  | none => exact Vq.nil _ _ _ _
  | some u => exact h _ (lookA_mem e)
end Go.Proofs.Ytnocekhgabgffaa
