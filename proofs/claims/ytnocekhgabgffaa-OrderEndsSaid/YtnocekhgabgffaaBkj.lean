/- A bus that keeps: step by step. No condition. -/
import Derived.Test.YtnocekhgabgffaaBki
import Derived.Test.YtnocekhgabgffaaBup
namespace Go.Proofs.Ytnocekhgabgffaa
open Go.RowKit
set_option linter.unusedVariables false
set_option maxHeartbeats 1000000

/-! ### A step of the bus, and what the statement remembers behind it -/
section
variable {n m N : Nat} {S T : Bs} {g : Nat → Kl} {fi : List Int} {Z : List Snt} {e : Ev}
theorem do_split (hd : doB S e = some T) : kindB e.kd = true ∧ hasB S e = true ∧ ∃ U, actB S e = some U ∧ T = lastB U e := by
  unfold doB at hd
  cases hk : kindB e.kd
  · rw [hk] at hd; cases hd
  cases hh : hasB S e
  · rw [hk, hh] at hd; cases hd
  rw [hk, hh] at hd
  cases ha : actB S e with
  | none => rw [ha] at hd; cases hd
  | some U =>
    rw [ha] at hd
    exact ⟨rfl, rfl, U, rfl, by simpa using hd.symm⟩
theorem has_parts (ok : S.Ok n m N) (hh : hasB S e = true) : (namesC e.kd = true → 0 ≤ e.co ∧ e.co < m) ∧ (namesL e.kd = true → 0 ≤ e.li ∧ e.li < n) ∧ (namesW e.kd = true → 0 ≤ e.wo ∧ e.wo < 8) := by
  unfold hasB isOfB at hh
  simp only [ok.cs, ok.ps, Bool.and_eq_true, Bool.or_eq_true, Bool.not_eq_true', decide_eq_true_eq] at hh
  obtain ⟨⟨hC, hL⟩, hW⟩ := hh
  exact ⟨fun h => hC.resolve_left (by simp [h]), fun h => hL.resolve_left (by simp [h]), fun h => hW.resolve_left (by simp [h])⟩
theorem act_vol (ha : actB S e = some T) : T.vol = S.vol := by
  unfold actB at ha
  simp only at ha
  by_cases h : e.kd = 1
  · rw [if_pos h] at ha
    have := ite_some ha; subst this; rfl
  rw [if_neg h] at ha
  clear h
  by_cases h : e.kd = 2
  · rw [if_pos h] at ha
    have := ite_some ha; subst this; rfl
  rw [if_neg h] at ha
  clear h
  by_cases h : e.kd = 3
  · rw [if_pos h] at ha
    cases ht : (S.core e.co.toNat).takeE (storeOf e) with
    | none => rw [ht] at ha; have := ite_some ha; subst this; rfl
    | some c' => rw [ht] at ha; cases ha; rfl
  rw [if_neg h] at ha
  clear h
  by_cases h : e.kd = 4
  · rw [if_pos h] at ha
    have := ite_some ha; subst this; rfl
  rw [if_neg h] at ha
  clear h
  by_cases h : e.kd = 5
  · rw [if_pos h] at ha
    cases ha; rfl
  rw [if_neg h] at ha
  clear h
  by_cases h : e.kd = 6
  · rw [if_pos h] at ha
    split at ha
    · cases ha
    · cases ha; rfl
  rw [if_neg h] at ha
  clear h
  by_cases h : e.kd = 7
  · rw [if_pos h] at ha
    have := ite_some ha; subst this; rfl
  rw [if_neg h] at ha
  clear h
  by_cases h : e.kd = 8
  · rw [if_pos h] at ha
    have := ite_some ha; subst this; rfl
  rw [if_neg h] at ha
  clear h
  by_cases h : e.kd = 9 ∨ e.kd = 10
  · rw [if_pos h] at ha
    have := ite_some ha; subst this; rfl
  rw [if_neg h] at ha
  clear h
  by_cases h : e.kd = 11
  · rw [if_pos h] at ha
    cases ha; rfl
  rw [if_neg h] at ha
  clear h
  by_cases h : e.kd = 12
  · rw [if_pos h] at ha
    have := ite_some ha; subst this; rfl
  rw [if_neg h] at ha
  clear h
  by_cases h : e.kd = 13
  · rw [if_pos h] at ha
    cases ht : (S.core e.co.toNat).takeE (flushOf e) with
    | none => rw [ht] at ha; cases ha
    | some c' => rw [ht] at ha; cases ha; rfl
  rw [if_neg h] at ha
  clear h
  have := ite_some ha; subst this; rfl
theorem last_parts (U : Bs) (e : Ev) : (lastB U e).ls = U.ls ∧ (lastB U e).ks = U.ks ∧ (lastB U e).ps = U.ps ∧ (lastB U e).vol = U.vol := by
  unfold lastB
  split <;> exact ⟨rfl, rfl, rfl, rfl⟩
theorem KI.last (h : KI n m S g fi Z) (e : Ev) : KI n m (lastB S e) g fi Z := by
  obtain ⟨h1, h2, h3, h4⟩ := last_parts S e
  exact h.same h1 h2 h3 h4 (fun c _ => (last_core (S := S) (e := e) (k := c)).1)
theorem do_vol (hd : doB S e = some T) : T.vol = S.vol := by
  obtain ⟨_, _, U, ha, rfl⟩ := do_split hd
  rw [(last_parts U e).2.2.2, act_vol ha]
/-- A core that changes, but for what it has on its way. -/
theorem KI.core (h : KI n m S g fi Z) (ok : S.Ok n m N) {i : Nat} (hi : i < m) {c' : Bc} (hc : c'.tm = (S.core i).tm) : KI n m (S.setC i c') g fi Z := by
  refine h.same rfl rfl rfl rfl (fun c _ => ?_)
  rw [core_setC (by rw [ok.cs]; exact hi)]
  split
  · rename_i e; rw [hc, e]
  · rfl
theorem KI.step_store (ok : S.Ok n m N) (hd : doB S e = some T) (h3 : e.kd = 3) (h : KI n m S g fi Z) : KI n m T (gSt g e.li.toNat e) fi Z ∧ (0 ≤ e.li ∧ e.li < n) ∧ (0 ≤ e.wo ∧ e.wo < 8) := by
  obtain ⟨hk, hh, U, ha, rfl⟩ := do_split hd
  obtain ⟨pC, pL, pW⟩ := has_parts ok hh
  have c0 := pC (by rw [h3]; rfl)
  have l0 := pL (by rw [h3]; rfl)
  have w0 := pW (by rw [h3]; rfl)
  refine ⟨KI.last ?_ e, l0, w0⟩
  obtain ⟨kd, co, li, wo, va⟩ := e
  simp only at h3 c0 l0 w0 ⊢
  subst h3
  change (match (S.core co.toNat).takeE (storeOf ⟨3, co, li, wo, va⟩) with
      | some c' => some ((S.setC co.toNat c').setW li.toNat wo.toNat va)
      | none => if (S.core co.toNat).locks li wo then some (S.setW li.toNat wo.toNat va) else none) = some U at ha
  cases ht : (S.core co.toNat).takeE (storeOf ⟨3, co, li, wo, va⟩) with
  | none =>
    rw [ht] at ha
    have := ite_some ha
    subst this
    exact h.store (e := ⟨3, co, li, wo, va⟩) (by omega) w0.1 w0.2
  | some c' =>
    rw [ht] at ha
    cases ha
    exact (h.core ok (by omega) (takeE_tm ht).1).store (e := ⟨3, co, li, wo, va⟩) (by omega) w0.1 w0.2
theorem KI.step_send (ok : S.Ok n m N) (hd : doB S e = some T) (h13 : e.kd = 13) (h : KI n m S g fi Z) {fs : List Int} (hfl : fs.length = n) (hfs : ∀ k, k < n → fs[k]? = some ((g k).M + (g k).H.length)) :
    KI n m T g fi (Z ++ [⟨e, fun k => (g k).H.length, T.ls, fs⟩]) := by
  obtain ⟨hk, hh, U, ha, rfl⟩ := do_split hd
  obtain ⟨pC, pL, pW⟩ := has_parts ok hh
  have c0 := pC (by rw [h13]; rfl)
  have l0 := pL (by rw [h13]; rfl)
  rw [(last_parts U e).1]
  refine KI.last ?_ e
  obtain ⟨kd, co, li, wo, va⟩ := e
  simp only at h13 c0 l0 ⊢
  subst h13
  change (match (S.core co.toNat).takeE (flushOf ⟨13, co, li, wo, va⟩) with
      | some c' => some (S.setC co.toNat (c'.sendE li (S.ps.getD li.toNat 0)))
      | none => none) = some U at ha
  cases ht : (S.core co.toNat).takeE (flushOf ⟨13, co, li, wo, va⟩) with
  | none => rw [ht] at ha; cases ha
  | some c' =>
    rw [ht] at ha
    cases ha
    obtain ⟨c, rfl⟩ : ∃ c : Nat, co = c := ⟨co.toNat, by omega⟩
    obtain ⟨l, rfl⟩ : ∃ l : Nat, li = l := ⟨li.toNat, by omega⟩
    exact h.send ok (c := c) (l := l) (by omega) (by omega) (takeE_tm ht).1 rfl rfl hfl hfs
theorem KI.step_fail (ok : S.Ok n m N) (hd : doB S e = some T) (h11 : e.kd = 11) (h : KI n m S g fi Z) : KI n m T (gFa g S.ks) S.ks [] ∧ T.ls = S.ks ∧ T.ks = S.ks := by
  obtain ⟨hk, hh, U, ha, rfl⟩ := do_split hd
  obtain ⟨q1, q2, _, _⟩ := last_parts U e
  rw [q1, q2]
  obtain ⟨kd, co, li, wo, va⟩ := e
  simp only at h11
  subst h11
  cases ha
  exact ⟨KI.last (h.fail ok) _, rfl, rfl⟩
/-- An answer: the first pending one of that core and that line; there is one. -/
theorem KI.step_answer (ok : S.Ok n m N) (hd : doB S e = some T) (h6 : e.kd = 6) (h : KI n m S g fi Z) : (0 ≤ e.li ∧ e.li < n) ∧ (0 ≤ e.co ∧ e.co < m) ∧ (∃ z ∈ Z, z.mt e.co e.li = true) ∧
    ∀ (A B : List Snt) (z : Snt), Z = A ++ z :: B → (∀ x ∈ A, x.mt e.co e.li = false) → z.mt e.co e.li = true →
      KI n m T (if (g e.li.toNat).f ≤ z.s e.li.toNat then gFl g e.li.toNat (z.s e.li.toNat) else g) (if (g e.li.toNat).f ≤ z.s e.li.toNat then lnPut fi e.li.toNat (ln z.ws e.li.toNat) else fi) (A ++ z.off :: B) := by
  obtain ⟨hk, hh, U, ha, rfl⟩ := do_split hd
  obtain ⟨pC, pL, pW⟩ := has_parts ok hh
  have c0 := pC (by rw [h6]; rfl)
  have l0 := pL (by rw [h6]; rfl)
  obtain ⟨kd, co, li, wo, va⟩ := e
  simp only at h6 c0 l0 ⊢
  subst h6
  obtain ⟨c, rfl⟩ : ∃ c : Nat, co = c := ⟨co.toNat, by omega⟩
  obtain ⟨l, rfl⟩ : ∃ l : Nat, li = l := ⟨li.toNat, by omega⟩
  change (if (sentOf (S.core c) l).length = 0 ∨ (sentOf (S.core c) l).headD 0 = S.ps.getD l 0 then none else some (S.setC c ((S.core c).ansE l))) = some U at ha
  split at ha
  · cases ha
  · rename_i h0
    cases ha
    have hn0 : (sentOf (S.core c) l).length ≠ 0 := fun e => h0 (.inl e)
    have hne : (sentOf (S.core c) l).headD 0 ≠ S.ps.getD l 0 := fun e => h0 (.inr e)
    exact ⟨l0, c0, h.some_sent (by omega) (by omega) hn0, fun A B z hZ hA hz => KI.last (h.answer ok (by omega) (by omega) hn0 hne hZ hA hz) _⟩
theorem KI.step_push (ok : S.Ok n m N) (hd : doB S e = some T) (h5 : e.kd = 5) (h : KI n m S g fi Z) : ∃ g', KI n m T g' fi Z ∧ ∀ k, (g' k).H = (g k).H ∧ (g' k).f = (g k).f ∧ (g' k).M = (g k).M := by
  obtain ⟨hk, hh, U, ha, rfl⟩ := do_split hd
  obtain ⟨pC, pL, pW⟩ := has_parts ok hh
  have l0 := pL (by rw [h5]; rfl)
  obtain ⟨kd, co, li, wo, va⟩ := e
  simp only at h5 l0
  subst h5
  cases ha
  exact ⟨gPu g li.toNat, KI.last (KI.push ok h (l := li.toNat) (by omega)) _, fun k => by unfold gPu; split <;> simp_all⟩
/-- Any other event. -/
theorem KI.step_rest (ok : S.Ok n m N) (hd : doB S e = some T) (h : KI n m S g fi Z) (h3 : e.kd ≠ 3) (h6 : e.kd ≠ 6) (h11 : e.kd ≠ 11) (h13 : e.kd ≠ 13) : ∃ g', KI n m T g' fi Z ∧ ∀ k, (g' k).H = (g k).H ∧ (g' k).f = (g k).f ∧ (g' k).M = (g k).M := by
  by_cases h5 : e.kd = 5
  · exact h.step_push ok hd h5
  refine ⟨g, ?_, fun k => ⟨rfl, rfl, rfl⟩⟩
  obtain ⟨hk, hh, U, ha, rfl⟩ := do_split hd
  obtain ⟨pC, pL, pW⟩ := has_parts ok hh
  have hkd : e.kd = 1 ∨ e.kd = 2 ∨ e.kd = 4 ∨ e.kd = 7 ∨ e.kd = 8 ∨ e.kd = 9 ∨ e.kd = 10 ∨ e.kd = 12 ∨ e.kd = 14 := by
    unfold kindB at hk
    have : 1 ≤ e.kd ∧ e.kd ≤ 14 := by simpa using hk
    omega
  refine KI.last ?_ e
  obtain ⟨kd, co, li, wo, va⟩ := e
  simp only at hkd pC
  rcases hkd with rfl | rfl | rfl | rfl | rfl | rfl | rfl | rfl | rfl
  · have := ite_some (show (if _ then some S else none) = some U from ha); subst this; exact h
  · have := ite_some (show (if _ then some S else none) = some U from ha); subst this; exact h
  · have := ite_some (show (if _ then some S else none) = some U from ha); subst this; exact h
  · have := ite_some (show (if _ then some S else none) = some U from ha); subst this; exact h
  · have := ite_some (show (if _ then some S else none) = some U from ha); subst this; exact h
  · have := ite_some (show (if _ then some (S.setC co.toNat { S.core co.toNat with st := true }) else none) = some U from ha); subst this
    exact h.core ok (by have := pC rfl; omega) rfl
  · have := ite_some (show (if _ then some (S.setC co.toNat { S.core co.toNat with st := true }) else none) = some U from ha); subst this
    exact h.core ok (by have := pC rfl; omega) rfl
  · have := ite_some (show (if _ then some (S.setC co.toNat ((S.core co.toNat).putE (storeOf ⟨12, co, li, wo, va⟩))) else none) = some U from ha); subst this
    exact h.core ok (by have := pC rfl; omega) rfl
  · have := ite_some (show (if _ then some (S.setC co.toNat ((S.core co.toNat).putE (flushOf ⟨14, co, li, wo, va⟩))) else none) = some U from ha); subst this
    exact h.core ok (by have := pC rfl; omega) rfl
def g0 : Nat → Kl := fun _ => ⟨List.replicate 8 0, [], 0, 0, 0⟩
theorem ln_zeros {n k : Nat} (hk : k < n) : ln (List.replicate (n * 8) (0 : Int)) k = List.replicate 8 0 := by
  unfold ln
  rw [List.drop_replicate, List.take_replicate, Nat.min_eq_left (by omega)]
theorem KI.start (n m v : Nat) : KI n m (bs0 n m v) g0 (List.replicate (n * 8) 0) [] := by
  have hc : ∀ c, ((bs0 n m v).core c).tm = [] := fun c => by
    unfold Bs.core bs0
    rw [List.getD_eq_getElem?_getD]
    simp only [List.getElem?_replicate]
    split <;> rfl
  refine ⟨fun k hk _ => ln_zeros hk, fun k _ => rfl, fun k _ e he => by simp [g0] at he, fun k hk => ln_zeros hk, fun k hk _ => ln_zeros hk, fun k _ => ⟨Nat.le_refl _, Nat.le_refl _⟩, by simp, fun k hk => ln_zeros hk, by simp, fun c _ => by rw [hc]; simp, fun c l _ _ => ?_⟩
  unfold sentOf
  rw [hc]
  exact trivial
end
end Go.Proofs.Ytnocekhgabgffaa
