/- What fences wait for, counted. No condition. -/
import Derived.Test.YtnocekhgabgffaaBuw
namespace Go.Proofs.Ytnocekhgabgffaa
open Go.RowKit
set_option linter.unusedVariables false
set_option maxHeartbeats 1000000

/-! ### Flushes on their way, counted -/
def opn (c : Bc) : Int := ((c.tm.map fun p => p.2.length).sum : Nat)
def Full (c : Bc) : Prop := ∀ p ∈ c.tm, p.2 ≠ []
theorem sum_put (l : Int) (x : List Int) : ∀ tm : List (Int × List Int), ((putA l x tm).map fun p => p.2.length).sum + ((lookA l tm).getD []).length = (tm.map fun p => p.2.length).sum + x.length
  | [] => by simp [putA, lookA]
  | (a, u) :: tm => by
    unfold putA lookA
    by_cases h : a = l
    · simp only [if_pos h, List.map_cons, List.sum_cons, Option.getD_some]; omega
    · simp only [if_neg h, List.map_cons, List.sum_cons]
      have := sum_put l x tm
      omega
theorem sum_drop (l : Int) : ∀ tm : List (Int × List Int), ((dropA l (putA l [] tm)).map fun p => p.2.length).sum = ((putA l [] tm).map fun p => p.2.length).sum
  | [] => by simp [putA, dropA]
  | (a, u) :: tm => by
    unfold putA
    by_cases h : a = l
    · rw [if_pos h]; unfold dropA; rw [if_pos rfl]; simp
    · rw [if_neg h]; unfold dropA; rw [if_neg h]
      have := sum_drop l tm
      simp only [List.map_cons, List.sum_cons]; omega
theorem drop_full (l : Int) : ∀ {tm : List (Int × List Int)}, (∀ p ∈ tm, p.2 ≠ []) → ∀ p ∈ dropA l (putA l [] tm), p.2 ≠ []
  | [], _, p, hp => by simp [putA, dropA] at hp
  | (a, u) :: tm, h, p, hp => by
    unfold putA at hp
    by_cases e : a = l
    · rw [if_pos e] at hp; unfold dropA at hp; rw [if_pos rfl] at hp
      exact h p (List.mem_cons_of_mem _ hp)
    · rw [if_neg e] at hp; unfold dropA at hp; rw [if_neg e] at hp
      rcases List.mem_cons.1 hp with rfl | hp
      · exact h _ List.mem_cons_self
      · exact drop_full l (fun p hp => h p (List.mem_cons_of_mem _ hp)) p hp
theorem opn_zero {c : Bc} (h : Full c) : opn c = 0 ↔ c.tm = [] := by
  unfold opn
  constructor
  · intro h0
    cases e : c.tm with
    | nil => rfl
    | cons p r =>
      have := h p (by rw [e]; simp)
      rw [e] at h0
      simp only [List.map_cons, List.sum_cons] at h0
      have : 0 < p.2.length := List.length_pos_iff.2 this
      omega
  · intro h0; rw [h0]; rfl
theorem opn_send (c : Bc) (l p : Int) : opn (c.sendE l p) = opn c + 1 := by
  have := sum_put l (sentOf c l ++ [p]) c.tm
  unfold opn Bc.sendE
  simp only
  rw [List.length_append, List.length_singleton] at this
  unfold sentOf at this ⊢
  omega
theorem full_send {c : Bc} (h : Full c) (l p : Int) : Full (c.sendE l p) := fun q hq => by
  rcases mem_putA hq with rfl | hq
  · simp
  · exact h q hq
theorem opn_ans {c : Bc} {l : Int} (h : (sentOf c l).length ≠ 0) : opn (c.ansE l) = opn c - 1 := by
  have h1 := sum_put l (sentOf c l).tail c.tm
  unfold opn Bc.ansE
  simp only
  split
  · rename_i h2
    have ht : (sentOf c l).tail = [] := List.eq_nil_of_length_eq_zero (by rw [List.length_tail]; omega)
    rw [ht] at h1 ⊢
    have := sum_drop l c.tm
    unfold sentOf at h2
    simp only [List.length_nil] at h1
    omega
  · have ht : (sentOf c l).tail.length = (sentOf c l).length - 1 := List.length_tail
    unfold sentOf at h1 h ht ⊢
    omega
theorem full_ans {c : Bc} (h : Full c) {l : Int} (_h0 : (sentOf c l).length ≠ 0) : Full (c.ansE l) := by
  unfold Full Bc.ansE
  simp only
  split
  · rename_i h2
    have ht : (sentOf c l).tail = [] := List.eq_nil_of_length_eq_zero (by rw [List.length_tail]; omega)
    rw [ht]; exact drop_full l h
  · intro q hq
    rcases mem_putA hq with rfl | hq
    · intro e
      have : (sentOf c l).tail.length = 0 := by simp only at e; rw [e]; rfl
      rw [List.length_tail] at this
      omega
    · exact h q hq
theorem takeE_tm {c c' : Bc} {y : Be} (h : c.takeE y = some c') : c'.tm = c.tm ∧ c'.st = c.st := by
  unfold Bc.takeE at h
  cases hb : c.buf with
  | nil => rw [hb] at h; cases h
  | cons z l =>
    rw [hb] at h
    simp only at h
    split at h
    · cases h; exact ⟨rfl, rfl⟩
    · cases h
theorem core_setC {S : Bs} {i : Nat} (h : i < S.cs.length) (c : Bc) (k : Nat) : (S.setC i c).core k = if k = i then c else S.core k := by
  unfold Bs.core Bs.setC
  by_cases e : k = i
  · subst e; rw [if_pos rfl, List.getD_eq_getElem?_getD, List.getElem?_set_self h]; rfl
  · rw [if_neg e, List.getD_eq_getElem?_getD, List.getElem?_set_ne (Ne.symm e), ← List.getD_eq_getElem?_getD]
/-- What the statement counts, of core k. -/
structure FenI (S : Bs) (k : Nat) (o : Int) (s : Bool) : Prop where
  full : Full (S.core k)
  o : o = opn (S.core k)
  s : s = (S.core k).st
def fenO (k : Nat) (e : Ev) (o : Int) : Int := if e.kd = 11 then 0 else if e.co = k then (if e.kd = 13 then o + 1 else if e.kd = 6 then o - 1 else o) else o
def fenS (k : Nat) (e : Ev) (s : Bool) : Bool := if e.kd = 11 then false else if e.co = k then (if e.kd = 9 ∨ e.kd = 10 then true else s) else s
theorem FenI.same {S T : Bs} {k : Nat} {o : Int} {s : Bool} (h : FenI S k o s) (h1 : (T.core k).tm = (S.core k).tm) (h2 : (T.core k).st = (S.core k).st) : FenI T k o s := by
  refine ⟨?_, ?_, ?_⟩
  · unfold Full; rw [h1]; exact h.full
  · rw [h.o]; unfold opn; rw [h1]
  · rw [h.s, h2]
theorem last_core {S : Bs} {e : Ev} {k : Nat} : ((lastB S e).core k).tm = (S.core k).tm ∧ ((lastB S e).core k).st = (S.core k).st := by
  unfold lastB
  split
  · unfold Bs.last
    by_cases h : e.co.toNat < S.cs.length
    · rw [core_setC h]
      split
      · rename_i e1; rw [e1]; exact ⟨rfl, rfl⟩
      · exact ⟨rfl, rfl⟩
    · have : S.setC e.co.toNat { S.core e.co.toNat with la := e } = S := by
        unfold Bs.setC
        rw [List.set_eq_of_length_le (by omega)]
      rw [this]; exact ⟨rfl, rfl⟩
  · exact ⟨rfl, rfl⟩
theorem fail_core (S : Bs) (k : Nat) : S.fail.core k = bcZ := by
  unfold Bs.core Bs.fail
  rw [List.getD_eq_getElem?_getD]
  simp only [List.getElem?_replicate]
  split <;> rfl
theorem FenI.act {S T : Bs} {n m N k : Nat} {o : Int} {s : Bool} (ok : S.Ok n m N) {e : Ev} (hk : kindB e.kd = true) (hh : hasB S e = true) (ha : actB S e = some T) (h : FenI S k o s) : FenI T k (fenO k e o) (fenS k e s) := by
  have hkd : e.kd = 1 ∨ e.kd = 2 ∨ e.kd = 3 ∨ e.kd = 4 ∨ e.kd = 5 ∨ e.kd = 6 ∨ e.kd = 7 ∨ e.kd = 8 ∨ e.kd = 9 ∨ e.kd = 10 ∨ e.kd = 11 ∨ e.kd = 12 ∨ e.kd = 13 ∨ e.kd = 14 := by
    unfold kindB at hk
    have : 1 ≤ e.kd ∧ e.kd ≤ 14 := by simpa using hk
    omega
  have hcs := ok.cs
  unfold hasB at hh
  simp only [ok.cs, ok.ps, Bool.and_eq_true, Bool.or_eq_true, Bool.not_eq_true'] at hh
  obtain ⟨⟨hC, hL⟩, hW⟩ := hh
  obtain ⟨kd, co, li, wo, va⟩ := e
  simp only at hkd hC hL hW
  have hci : namesC kd = true → co.toNat < S.cs.length ∧ (k = co.toNat ↔ co = k) := fun hn => by
    have := hC.resolve_left (by simp [hn])
    unfold isOfB at this
    simp only [Bool.and_eq_true, decide_eq_true_eq] at this
    omega
  have same : ∀ U : Bs, (∀ i c, U = S.setC i c → True) → True := fun _ _ => trivial
  have one : ∀ c' : Bc, namesC kd = true → c'.tm = (S.core co.toNat).tm → c'.st = (S.core co.toNat).st → FenI (S.setC co.toNat c') k o s := fun c' hn h1 h2 => by
    refine h.same ?_ ?_
    · rw [core_setC (hci hn).1]; split
      · rename_i e1; rw [h1, e1]
      · rfl
    · rw [core_setC (hci hn).1]; split
      · rename_i e1; rw [h2, e1]
      · rfl
  rcases hkd with rfl | rfl | rfl | rfl | rfl | rfl | rfl | rfl | rfl | rfl | rfl | rfl | rfl | rfl
  · have := ite_some (show (if _ then some S else none) = some T from ha); subst this; simpa [fenO, fenS] using h
  · have := ite_some (show (if _ then some S else none) = some T from ha); subst this; simpa [fenO, fenS] using h
  · change (match (S.core co.toNat).takeE (storeOf ⟨3, co, li, wo, va⟩) with
      | some c' => some ((S.setC co.toNat c').setW li.toNat wo.toNat va)
      | none => if (S.core co.toNat).locks li wo then some (S.setW li.toNat wo.toNat va) else none) = some T at ha
    have e0 : fenO k ⟨3, co, li, wo, va⟩ o = o := by simp [fenO]
    have e1 : fenS k ⟨3, co, li, wo, va⟩ s = s := by simp [fenS]
    rw [e0, e1]
    cases ht : (S.core co.toNat).takeE (storeOf ⟨3, co, li, wo, va⟩) with
    | none => rw [ht] at ha; have := ite_some ha; subst this; exact h.same rfl rfl
    | some c' =>
      rw [ht] at ha; cases ha
      obtain ⟨g1, g2⟩ := takeE_tm ht
      exact (one c' (by rfl) g1 g2).same rfl rfl
  · have := ite_some (show (if _ then some S else none) = some T from ha); subst this; simpa [fenO, fenS] using h
  · cases ha
    have e0 : fenO k ⟨5, co, li, wo, va⟩ o = o := by simp [fenO]
    have e1 : fenS k ⟨5, co, li, wo, va⟩ s = s := by simp [fenS]
    rw [e0, e1]
    exact h.same rfl rfl
  · change (if (sentOf (S.core co.toNat) li).length = 0 ∨ (sentOf (S.core co.toNat) li).headD 0 = S.ps.getD li.toNat 0 then none else some (S.setC co.toNat ((S.core co.toNat).ansE li))) = some T at ha
    split at ha
    · cases ha
    · rename_i h0
      cases ha
      have hn0 : (sentOf (S.core co.toNat) li).length ≠ 0 := fun e => h0 (.inl e)
      obtain ⟨g1, g2⟩ := hci (by rfl)
      have cs := core_setC g1 ((S.core co.toNat).ansE li) k
      by_cases e : k = co.toNat
      · rw [if_pos e] at cs
        have e2 := g2.1 e
        refine ⟨?_, ?_, ?_⟩
        · rw [cs]; exact full_ans (e ▸ h.full) hn0
        · rw [cs, opn_ans hn0]
          simp only [fenO]
          rw [if_neg (by decide), if_pos e2, if_neg (by decide), if_pos trivial, h.o, ← e]
        · rw [cs]
          simp only [fenS]
          rw [if_neg (by decide), if_pos e2, if_neg (by decide), h.s, ← e]; rfl
      · rw [if_neg e] at cs
        have e2 : ¬ co = k := fun x => e (g2.2 x)
        simp only [fenO, fenS, if_neg e2]
        exact h.same (by rw [cs]) (by rw [cs])
  · have := ite_some (show (if _ then some S else none) = some T from ha); subst this; simpa [fenO, fenS] using h
  · have := ite_some (show (if _ then some S else none) = some T from ha); subst this; simpa [fenO, fenS] using h
  · have := ite_some (show (if _ then some (S.setC co.toNat { S.core co.toNat with st := true }) else none) = some T from ha); subst this
    obtain ⟨g1, g2⟩ := hci (by rfl)
    have cs := core_setC g1 { S.core co.toNat with st := true } k
    by_cases e : k = co.toNat
    · rw [if_pos e] at cs
      have e2 := g2.1 e
      refine ⟨?_, ?_, ?_⟩
      · rw [cs]; exact (e ▸ h.full : Full (S.core co.toNat))
      · rw [cs]
        simp only [fenO]
        rw [if_neg (by decide), if_pos e2, if_neg (by decide), if_neg (by decide), h.o, e]; rfl
      · rw [cs]
        simp only [fenS]
        rw [if_neg (by decide), if_pos e2, if_pos (by decide)]
    · rw [if_neg e] at cs
      have e2 : ¬ co = k := fun x => e (g2.2 x)
      simp only [fenO, fenS, if_neg e2]
      exact h.same (by rw [cs]) (by rw [cs])
  · have := ite_some (show (if _ then some (S.setC co.toNat { S.core co.toNat with st := true }) else none) = some T from ha); subst this
    obtain ⟨g1, g2⟩ := hci (by rfl)
    have cs := core_setC g1 { S.core co.toNat with st := true } k
    by_cases e : k = co.toNat
    · rw [if_pos e] at cs
      have e2 := g2.1 e
      refine ⟨?_, ?_, ?_⟩
      · rw [cs]; exact (e ▸ h.full : Full (S.core co.toNat))
      · rw [cs]
        simp only [fenO]
        rw [if_neg (by decide), if_pos e2, if_neg (by decide), if_neg (by decide), h.o, e]; rfl
      · rw [cs]
        simp only [fenS]
        rw [if_neg (by decide), if_pos e2, if_pos (by decide)]
    · rw [if_neg e] at cs
      have e2 : ¬ co = k := fun x => e (g2.2 x)
      simp only [fenO, fenS, if_neg e2]
      exact h.same (by rw [cs]) (by rw [cs])
  · cases ha
    have cs := fail_core S k
    refine ⟨?_, by rw [cs]; rfl, by rw [cs]; rfl⟩
    rw [cs]; intro p hp; simp [bcZ] at hp
  · have := ite_some (show (if _ then some (S.setC co.toNat ((S.core co.toNat).putE (storeOf ⟨12, co, li, wo, va⟩))) else none) = some T from ha); subst this
    have := one _ (by rfl) (rfl : ((S.core co.toNat).putE (storeOf ⟨12, co, li, wo, va⟩)).tm = _) rfl
    simpa [fenO, fenS] using this
  · change (match (S.core co.toNat).takeE (flushOf ⟨13, co, li, wo, va⟩) with
      | some c' => some (S.setC co.toNat (c'.sendE li (S.ps.getD li.toNat 0)))
      | none => none) = some T at ha
    cases ht : (S.core co.toNat).takeE (flushOf ⟨13, co, li, wo, va⟩) with
    | none => rw [ht] at ha; cases ha
    | some c' =>
      rw [ht] at ha; cases ha
      obtain ⟨t1, t2⟩ := takeE_tm ht
      obtain ⟨g1, g2⟩ := hci (by rfl)
      have cs := core_setC g1 (c'.sendE li (S.ps.getD li.toNat 0)) k
      by_cases e : k = co.toNat
      · rw [if_pos e] at cs
        have e2 := g2.1 e
        have hf : Full c' := by unfold Full; rw [t1]; exact e ▸ h.full
        refine ⟨?_, ?_, ?_⟩
        · rw [cs]; exact full_send hf _ _
        · rw [cs, opn_send]
          simp only [fenO]
          rw [if_neg (by decide), if_pos e2, if_pos trivial, h.o]
          unfold opn; rw [t1, ← e]
        · rw [cs]
          simp only [fenS]
          rw [if_neg (by decide), if_pos e2, if_neg (by decide), h.s]
          show _ = c'.st
          rw [t2, ← e]
      · rw [if_neg e] at cs
        have e2 : ¬ co = k := fun x => e (g2.2 x)
        simp only [fenO, fenS, if_neg e2]
        exact h.same (by rw [cs]) (by rw [cs])
  · have := ite_some (show (if _ then some (S.setC co.toNat ((S.core co.toNat).putE (flushOf ⟨14, co, li, wo, va⟩))) else none) = some T from ha); subst this
    have := one _ (by rfl) (rfl : ((S.core co.toNat).putE (flushOf ⟨14, co, li, wo, va⟩)).tm = _) rfl
    simpa [fenO, fenS] using this
theorem FenI.step {S T : Bs} {n m N k : Nat} {o : Int} {s : Bool} (ok : S.Ok n m N) {e : Ev} (hd : doB S e = some T) (h : FenI S k o s) : FenI T k (fenO k e o) (fenS k e s) := by
  unfold doB at hd
  cases hk : kindB e.kd
  · rw [hk] at hd; cases hd
  cases hh : hasB S e
  · rw [hk, hh] at hd; cases hd
  rw [hk, hh] at hd
  cases ha : actB S e with
  | none => rw [ha] at hd; cases hd
  | some U =>
    rw [ha] at hd
    have : lastB U e = T := by simpa using hd
    subst this
    obtain ⟨g1, g2⟩ := last_core (S := U) (e := e) (k := k)
    exact (h.act ok hk hh ha).same g1 g2
theorem fence_do {S : Bs} {n m N k : Nat} {o : Int} {s : Bool} (ok : S.Ok n m N) (hk : k < m) (h : FenI S k o s) : (doB S ⟨7, k, 0, 0, 0⟩).isSome = (((((S.core k).buf.length : Int) == 0) && o == 0) && !s) := by
  have h1 : doB S ⟨7, k, 0, 0, 0⟩ = (actB S ⟨7, k, 0, 0, 0⟩).map fun T => lastB T ⟨7, k, 0, 0, 0⟩ := by
    unfold doB hasB
    have : isOfB (k : Int) S.cs.length = true := by rw [ok.cs]; unfold isOfB; simp; omega
    simp only [this]
    rfl
  have h2 : actB S ⟨7, k, 0, 0, 0⟩ = if !(S.core k).st && (S.core k).settled then some S else none := rfl
  rw [h1, h2, h.s]
  unfold Bc.settled
  have h3 := opn_zero h.full
  rw [← h.o] at h3
  have e1 : (S.core k).buf.isEmpty = (((S.core k).buf.length : Int) == 0) := by cases (S.core k).buf <;> simp <;> omega
  have e2 : (S.core k).tm.isEmpty = (o == 0) := by
    rw [Bool.eq_iff_iff]; simp [h3]
  rw [e1, e2]
  cases (S.core k).st <;> cases (((S.core k).buf.length : Int) == 0) <;> cases (o == 0) <;> rfl
end Go.Proofs.Ytnocekhgabgffaa
