/- What events do to a bus keeps its numbers small. No condition. -/
import Derived.Test.YtnocekhgabgffaaBum
namespace Go.Proofs.Ytnocekhgabgffaa
open Go.RowKit
set_option linter.unusedVariables false
set_option maxHeartbeats 1000000

/-! ### Numbers stay small -/
theorem Bc.Small.mono {N M : Nat} {c : Bc} (h : c.Small N) (hN : N ≤ M) : c.Small M :=
  ⟨Nat.le_trans h.buf hN, fun p hp => by have := h.sm p hp; omega, fun p hp => Nat.le_trans (h.tm p hp) hN⟩
theorem bcZ_small (N : Nat) : bcZ.Small N := ⟨Nat.zero_le _, by simp [bcZ], by simp [bcZ]⟩
theorem newO_small {N : Nat} {c : Bc} (h : c.Small N) (k : Int × Int) : -(N : Int) ≤ (newO c.sm k).1 ∧ (newO c.sm k).1 ≤ N := by
  unfold newO
  cases e : lookA k c.sm with
  | none => simp
  | some r => exact h.sm _ (lookA_mem e)
theorem putE_small {N : Nat} {c : Bc} (h : c.Small N) (y : Be) : (c.putE y).Small (N + 1) := by
  refine ⟨by simp [Bc.putE]; exact h.buf, fun p hp => ?_, fun p hp => Nat.le_succ_of_le (h.tm p hp)⟩
  unfold Bc.putE at hp
  cases hf : y.fl
  · simp only [hf, Bool.false_eq_true, if_false] at hp
    rcases mem_putA hp with rfl | hp
    · have := newO_small h (y.li, y.wo); simp only; omega
    · have := h.sm p hp; omega
  · simp only [hf, if_true] at hp
    have := h.sm p hp; omega
theorem takeE_small {N : Nat} {c c' : Bc} (h : c.Small N) {y : Be} (ht : c.takeE y = some c') : c'.Small (N + 1) := by
  unfold Bc.takeE at ht
  cases hb : c.buf with
  | nil => rw [hb] at ht; cases ht
  | cons z l =>
    rw [hb] at ht
    simp only at ht
    split at ht
    · cases ht
      have hbuf := h.buf
      rw [hb] at hbuf
      simp only [List.length_cons] at hbuf
      refine ⟨by show l.length ≤ N + 1; omega, fun p hp => ?_, fun p hp => Nat.le_succ_of_le (h.tm p hp)⟩
      simp only at hp
      split at hp
      · have := h.sm p hp; omega
      · have hq : ∀ p ∈ putA (y.li, y.wo) ((newO c.sm (y.li, y.wo)).1 - 1, (newO c.sm (y.li, y.wo)).2) c.sm, -((N + 1 : Nat) : Int) ≤ p.2.1 ∧ p.2.1 ≤ ((N + 1 : Nat) : Int) := fun p hp => by
          rcases mem_putA hp with rfl | hp
          · have := newO_small h (y.li, y.wo); simp only; omega
          · have := h.sm p hp; omega
        unfold takeSm at hp
        split at hp
        · exact hq p (mem_dropA hp)
        · exact hq p hp
    · cases ht
theorem sentOf_small {N : Nat} {c : Bc} (h : c.Small N) (l : Int) : (sentOf c l).length ≤ N := by
  unfold sentOf
  cases e : lookA l c.tm with
  | none => simp
  | some r => exact h.tm _ (lookA_mem e)
theorem sendE_small {N : Nat} {c : Bc} (h : c.Small N) (l p : Int) : (c.sendE l p).Small (N + 1) := by
  refine ⟨Nat.le_succ_of_le h.buf, fun p hp => by have := h.sm p hp; omega, fun q hq => ?_⟩
  rcases mem_putA hq with rfl | hq
  · have := sentOf_small h l; simp; exact this
  · exact Nat.le_succ_of_le (h.tm q hq)
theorem ansE_small {N : Nat} {c : Bc} (h : c.Small N) (l : Int) : (c.ansE l).Small N := by
  refine ⟨h.buf, h.sm, fun q hq => ?_⟩
  have hp : ∀ q ∈ putA l (sentOf c l).tail c.tm, q.2.length ≤ N := fun q hq => by
    rcases mem_putA hq with rfl | hq
    · have := sentOf_small h l; simp; omega
    · exact h.tm q hq
  unfold Bc.ansE at hq
  simp only at hq
  split at hq
  · exact hp q (mem_dropA hq)
  · exact hp q hq
section
variable {n m N M : Nat} {S T : Bs}
theorem Bs.Ok.mono (h : S.Ok n m N) (hN : N ≤ M) : S.Ok n m M :=
  ⟨h.n0, h.n64, h.m8, h.vol, h.ls, h.ks, h.ps, h.cs, fun p hp => by have := h.pb p hp; omega, fun c hc => (h.cb c hc).mono hN⟩
theorem Bs.Ok.core (h : S.Ok n m N) (i : Nat) : (S.core i).Small N := by
  unfold Bs.core
  rw [List.getD_eq_getElem?_getD]
  cases e : S.cs[i]? with
  | none => exact bcZ_small N
  | some c => exact h.cb c (List.mem_of_getElem? e)
theorem Bs.Ok.setC (h : S.Ok n m N) (i : Nat) {c : Bc} (hc : c.Small N) : (S.setC i c).Ok n m N :=
  ⟨h.n0, h.n64, h.m8, h.vol, h.ls, h.ks, h.ps, by simp [Bs.setC, h.cs], h.pb, fun d hd => by
    rcases List.mem_or_eq_of_mem_set hd with hd | rfl
    · exact h.cb d hd
    · exact hc⟩
theorem Bs.Ok.setW (h : S.Ok n m N) (l o : Nat) (v : Int) : (S.setW l o v).Ok n m N :=
  ⟨h.n0, h.n64, h.m8, h.vol, by simp [Bs.setW, h.ls], h.ks, h.ps, h.cs, h.pb, h.cb⟩
theorem Bs.Ok.push (h : S.Ok n m N) {l : Nat} (hl : l < n) : (S.push l).Ok n m (N + 1) := by
  have h' := h.mono (Nat.le_succ N)
  refine ⟨h'.n0, h'.n64, h'.m8, h'.vol, h'.ls, ?_, by simp [Bs.push, h.ps], h'.cs, fun p hp => ?_, h'.cb⟩
  · unfold Bs.push
    simp only
    split
    · have f1 : Fit (l * 8) 8 S.ls.length := by have := h.ls; unfold Fit; omega
      have f2 : Fit (l * 8) 8 S.ks.length := by have := h.ks; unfold Fit; omega
      rw [lnPut_length _ _ _ f2 (ln_length _ _ f1), h.ks]
    · exact h.ks
  · rcases List.mem_or_eq_of_mem_set hp with hp | rfl
    · exact h'.pb p hp
    · have hps : l < S.ps.length := by rw [h.ps]; exact hl
      have := h.pb _ (List.getElem_mem hps)
      rw [List.getD_eq_getElem?_getD, List.getElem?_eq_getElem hps]
      simp only [Option.getD_some]; omega
theorem Bs.Ok.fail (h : S.Ok n m N) : S.fail.Ok n m N :=
  ⟨h.n0, h.n64, h.m8, h.vol, h.ks, h.ks, h.ps, by simp [Bs.fail, h.cs], h.pb, fun c hc => by
    have := List.eq_of_mem_replicate hc; subst this; exact bcZ_small N⟩
theorem Bs.Ok.last (h : S.Ok n m N) (e : Ev) : (lastB S e).Ok n m N := by
  unfold lastB
  split
  · exact h.setC _ ⟨(h.core _).buf, (h.core _).sm, (h.core _).tm⟩
  · exact h
theorem ite_some {c : Prop} [Decidable c] {a b : Bs} (h : (if c then some a else none) = some b) : a = b := by
  split at h
  · exact Option.some.inj h
  · cases h
theorem act_ok (h : S.Ok n m N) {e : Ev} (hk : kindB e.kd = true) (hh : hasB S e = true) (ha : actB S e = some T) : T.Ok n m (N + 1) := by
  have h1 := h.mono (Nat.le_succ N)
  have c0 := h.core e.co.toNat
  have hkd : e.kd = 1 ∨ e.kd = 2 ∨ e.kd = 3 ∨ e.kd = 4 ∨ e.kd = 5 ∨ e.kd = 6 ∨ e.kd = 7 ∨ e.kd = 8 ∨ e.kd = 9 ∨ e.kd = 10 ∨ e.kd = 11 ∨ e.kd = 12 ∨ e.kd = 13 ∨ e.kd = 14 := by
    unfold kindB at hk
    have : 1 ≤ e.kd ∧ e.kd ≤ 14 := by simpa using hk
    omega
  unfold hasB at hh
  simp only [h.cs, h.ps, Bool.and_eq_true, Bool.or_eq_true, Bool.not_eq_true'] at hh
  obtain ⟨⟨hC, hL⟩, hW⟩ := hh
  obtain ⟨kd, co, li, wo, va⟩ := e
  simp only at hkd hC hL hW c0
  rcases hkd with rfl | rfl | rfl | rfl | rfl | rfl | rfl | rfl | rfl | rfl | rfl | rfl | rfl | rfl
  · have := ite_some (show (if _ then some S else none) = some T from ha); subst this; exact h1
  · have := ite_some (show (if _ then some S else none) = some T from ha); subst this; exact h1
  · change (match (S.core co.toNat).takeE (storeOf ⟨3, co, li, wo, va⟩) with
      | some c' => some ((S.setC co.toNat c').setW li.toNat wo.toNat va)
      | none => if (S.core co.toNat).locks li wo then some (S.setW li.toNat wo.toNat va) else none) = some T at ha
    cases ht : (S.core co.toNat).takeE (storeOf ⟨3, co, li, wo, va⟩) with
    | none => rw [ht] at ha; have := ite_some ha; subst this; exact h1.setW _ _ _
    | some c' => rw [ht] at ha; cases ha; exact (h1.setC _ (takeE_small c0 ht)).setW _ _ _
  · have := ite_some (show (if _ then some S else none) = some T from ha); subst this; exact h1
  · cases ha
    have hl := hL.resolve_left (by simp [namesL])
    unfold isOfB at hl
    simp only [Bool.and_eq_true, decide_eq_true_eq] at hl
    exact h.push (by show li.toNat < n; omega)
  · change (if (sentOf (S.core co.toNat) li).length = 0 ∨ (sentOf (S.core co.toNat) li).headD 0 = S.ps.getD li.toNat 0 then none else some (S.setC co.toNat ((S.core co.toNat).ansE li))) = some T at ha
    split at ha
    · cases ha
    · cases ha; exact (h.setC _ (ansE_small c0 li)).mono (Nat.le_succ N)
  · have := ite_some (show (if _ then some S else none) = some T from ha); subst this; exact h1
  · have := ite_some (show (if _ then some S else none) = some T from ha); subst this; exact h1
  · have := ite_some (show (if _ then some (S.setC co.toNat { S.core co.toNat with st := true }) else none) = some T from ha); subst this
    exact (h.setC (c := { S.core co.toNat with st := true }) _ ⟨c0.buf, c0.sm, c0.tm⟩).mono (Nat.le_succ N)
  · have := ite_some (show (if _ then some (S.setC co.toNat { S.core co.toNat with st := true }) else none) = some T from ha); subst this
    exact (h.setC (c := { S.core co.toNat with st := true }) _ ⟨c0.buf, c0.sm, c0.tm⟩).mono (Nat.le_succ N)
  · cases ha; exact h1.fail
  · have := ite_some (show (if _ then some (S.setC co.toNat ((S.core co.toNat).putE (storeOf ⟨12, co, li, wo, va⟩))) else none) = some T from ha); subst this
    exact h1.setC _ (putE_small c0 _)
  · change (match (S.core co.toNat).takeE (flushOf ⟨13, co, li, wo, va⟩) with
      | some c' => some (S.setC co.toNat (c'.sendE li (S.ps.getD li.toNat 0)))
      | none => none) = some T at ha
    cases ht : (S.core co.toNat).takeE (flushOf ⟨13, co, li, wo, va⟩) with
    | none => rw [ht] at ha; cases ha
    | some c' =>
      rw [ht] at ha; cases ha
      refine h1.setC _ ?_
      have ct := takeE_small c0 ht
      have htm : c'.tm = (S.core co.toNat).tm := by
        unfold Bc.takeE at ht
        cases hb : (S.core co.toNat).buf with
        | nil => rw [hb] at ht; cases ht
        | cons z l =>
          rw [hb] at ht
          simp only at ht
          split at ht
          · cases ht; rfl
          · cases ht
      refine ⟨ct.buf, ct.sm, fun q hq => ?_⟩
      rcases mem_putA hq with rfl | hq
      · have : (sentOf c' li).length ≤ N := by
          have := sentOf_small c0 li
          unfold sentOf at this ⊢
          rw [htm]; exact this
        simp; exact this
      · rw [htm] at hq; exact Nat.le_succ_of_le (c0.tm q hq)
  · have := ite_some (show (if _ then some (S.setC co.toNat ((S.core co.toNat).putE (flushOf ⟨14, co, li, wo, va⟩))) else none) = some T from ha); subst this
    exact h1.setC _ (putE_small c0 _)
theorem do_ok (h : S.Ok n m N) (e : Ev) : ((doB S e).getD S).Ok n m (N + 1) := by
  unfold doB
  cases hk : kindB e.kd
  · exact h.mono (Nat.le_succ N)
  cases hh : hasB S e
  · exact h.mono (Nat.le_succ N)
  cases ha : actB S e with
  | none => exact h.mono (Nat.le_succ N)
  | some T => exact (act_ok h hk hh ha).last e
end
end Go.Proofs.Ytnocekhgabgffaa
