/- Runs in pieces: pure. No condition. -/
import Derived.Test.YtnocekhgabgffaaRbm
import Derived.Test.YtnocekhgabgffaaBkj
import Derived.Test.YtnocekhgabgffaaBlc
namespace Go.Proofs.Ytnocekhgabgffaa
open Go.RowKit
set_option linter.unusedVariables false
set_option maxHeartbeats 1000000

/-! ### Runs, in pieces -/
section
variable {n m N : Nat} {S T : Bs}
theorem trialB_app : ∀ (a b : List Ev) (S : Bs), trialB S (a ++ b) = if (trialB S a).1 = a.length then (a.length + (trialB (trialB S a).2 b).1, (trialB (trialB S a).2 b).2) else trialB S a
  | [], b, S => by simp [trialB]
  | e :: a, b, S => by
    rw [List.cons_append]
    cases hd : doB S e with
    | none =>
      rw [trialB_stop hd, trialB_stop hd, if_neg (by simp)]
    | some T =>
      rw [trialB_go hd, trialB_go hd, trialB_app a b T]
      by_cases h : (trialB T a).1 = a.length
      · rw [if_pos h, if_pos (by simp [h])]
        simp; omega
      · rw [if_neg h, if_neg (by simp [h])]
theorem trialB_take : ∀ (l : List Ev) (S : Bs) (k : Nat), k ≤ (trialB S l).1 → (trialB S (l.take k)).1 = k
  | [], S, k, h => by simp [trialB] at h; subst h; rfl
  | e :: l, S, 0, h => rfl
  | e :: l, S, k + 1, h => by
    cases hd : doB S e with
    | none => rw [trialB_stop hd] at h; simp at h
    | some T =>
      rw [trialB_go hd] at h
      rw [List.take_succ_cons, trialB_go hd]
      simp only at h ⊢
      rw [trialB_take l T k (by omega)]
theorem take_len {l : List Ev} {k : Nat} (h : k ≤ (trialB S l).1) : (l.take k).length = k := by
  have := trialB_le l S
  rw [List.length_take]; omega
theorem do99 (S : Bs) (c l o v : Int) : doB S ⟨99, c, l, o, v⟩ = none := by unfold doB; rw [show kindB 99 = false from rfl]; rfl
theorem trialB_bad {l : List Ev} {k : Nat} (h : k ≤ (trialB S l).1) (x : Ev) (hx : ∀ T, doB T x = none) : (trialB S (l.take k ++ [x])).1 = k := by
  rw [trialB_app, if_pos (by rw [trialB_take l S k h, take_len h])]
  simp only [take_len h]
  rw [trialB_stop (hx _)]
  simp
/-- One event more of those that are allowed. -/
theorem trialB_next {l : List Ev} {j : Nat} {x : Ev} (h : (trialB S l).1 = l.length) (hx : l[j]? = some x) : ∃ T, doB (trialB S (l.take j)).2 x = some T ∧ (trialB S (l.take (j + 1))).2 = T := by
  obtain ⟨hj, rfl⟩ := List.getElem?_eq_some_iff.1 hx
  have h1 := trialB_take l S (j + 1) (by omega)
  have e1 : l.take (j + 1) = l.take j ++ [l[j]] := List.take_succ_eq_append_getElem hj
  have h0 := trialB_take l S j (by omega)
  have hl : (l.take j).length = j := by rw [List.length_take]; omega
  rw [e1, trialB_app, if_pos (by rw [h0, hl])] at h1 ⊢
  simp only [hl] at h1 ⊢
  cases hd : doB (trialB S (l.take j)).2 l[j] with
  | none => rw [trialB_stop hd] at h1; simp at h1
  | some T => exact ⟨T, rfl, by rw [trialB_go hd]; rfl⟩
/-- What an event does to the lines. -/
def lsOf (S : Bs) (e : Ev) : List Int := if e.kd = 3 then S.ls.set (e.li.toNat * 8 + e.wo.toNat) e.va else if e.kd = 11 then S.ks else S.ls
def ksOf (S : Bs) (e : Ev) : List Int := if e.kd = 5 then (if S.vol ≤ e.li.toNat then lnPut S.ks e.li.toNat (ln S.ls e.li.toNat) else S.ks) else S.ks
theorem act_lines {e : Ev} (ha : actB S e = some T) : T.ls = lsOf S e ∧ T.ks = ksOf S e := by
  unfold actB at ha
  simp only at ha
  by_cases h : e.kd = 1
  · rw [if_pos h] at ha
    have := ite_some ha; subst this; exact ⟨by simp [lsOf, h], by simp [ksOf, h]⟩
  rw [if_neg h] at ha
  have h1 := h
  clear h
  by_cases h : e.kd = 2
  · rw [if_pos h] at ha
    have := ite_some ha; subst this; exact ⟨by simp [lsOf, h], by simp [ksOf, h]⟩
  rw [if_neg h] at ha
  have h2 := h
  clear h
  by_cases h : e.kd = 3
  · rw [if_pos h] at ha
    cases ht : (S.core e.co.toNat).takeE (storeOf e) with
    | none => rw [ht] at ha; have := ite_some ha; subst this; exact ⟨by simp [lsOf, h, Bs.setW], by simp [ksOf, h, Bs.setW]⟩
    | some c' => rw [ht] at ha; cases ha; exact ⟨by simp [lsOf, h, Bs.setW, Bs.setC], by simp [ksOf, h, Bs.setW, Bs.setC]⟩
  rw [if_neg h] at ha
  have h3 := h
  clear h
  by_cases h : e.kd = 4
  · rw [if_pos h] at ha
    have := ite_some ha; subst this; exact ⟨by simp [lsOf, h], by simp [ksOf, h]⟩
  rw [if_neg h] at ha
  have h4 := h
  clear h
  by_cases h : e.kd = 5
  · rw [if_pos h] at ha
    cases ha; exact ⟨by simp [lsOf, h, Bs.push], by simp [ksOf, h, Bs.push]⟩
  rw [if_neg h] at ha
  have h5 := h
  clear h
  by_cases h : e.kd = 6
  · rw [if_pos h] at ha
    split at ha
    · cases ha
    · cases ha; exact ⟨by simp [lsOf, h, Bs.setC], by simp [ksOf, h, Bs.setC]⟩
  rw [if_neg h] at ha
  have h6 := h
  clear h
  by_cases h : e.kd = 7
  · rw [if_pos h] at ha
    have := ite_some ha; subst this; exact ⟨by simp [lsOf, h], by simp [ksOf, h]⟩
  rw [if_neg h] at ha
  have h7 := h
  clear h
  by_cases h : e.kd = 8
  · rw [if_pos h] at ha
    have := ite_some ha; subst this; exact ⟨by simp [lsOf, h], by simp [ksOf, h]⟩
  rw [if_neg h] at ha
  have h8 := h
  clear h
  by_cases h : e.kd = 9 ∨ e.kd = 10
  · rw [if_pos h] at ha
    have := ite_some ha; subst this; rcases h with h | h <;> exact ⟨by simp [lsOf, h, Bs.setC], by simp [ksOf, h, Bs.setC]⟩
  rw [if_neg h] at ha
  have h9 := h
  clear h
  by_cases h : e.kd = 11
  · rw [if_pos h] at ha
    cases ha; exact ⟨by simp [lsOf, h, Bs.fail], by simp [ksOf, h, Bs.fail]⟩
  rw [if_neg h] at ha
  have h11 := h
  clear h
  by_cases h : e.kd = 12
  · rw [if_pos h] at ha
    have := ite_some ha; subst this; exact ⟨by simp [lsOf, h, Bs.setC], by simp [ksOf, h, Bs.setC]⟩
  rw [if_neg h] at ha
  have h12 := h
  clear h
  by_cases h : e.kd = 13
  · rw [if_pos h] at ha
    cases ht : (S.core e.co.toNat).takeE (flushOf e) with
    | none => rw [ht] at ha; cases ha
    | some c' => rw [ht] at ha; cases ha; exact ⟨by simp [lsOf, h, Bs.setC], by simp [ksOf, h, Bs.setC]⟩
  rw [if_neg h] at ha
  have h13 := h
  clear h
  have := ite_some ha; subst this
  exact ⟨by simp [lsOf, h3, h11, Bs.setC], by simp [ksOf, h5, Bs.setC]⟩
theorem do_lines {e : Ev} (hd : doB S e = some T) : T.ls = lsOf S e ∧ T.ks = ksOf S e := by
  obtain ⟨_, _, U, ha, rfl⟩ := do_split hd
  obtain ⟨h1, h2, _, _⟩ := last_parts U e
  obtain ⟨h3, h4⟩ := act_lines ha
  exact ⟨h1.trans h3, h2.trans h4⟩
theorem do_place {e : Ev} (ok : S.Ok n m N) (hd : doB S e = some T) : (namesL e.kd = true → 0 ≤ e.li ∧ e.li < n) ∧ (namesW e.kd = true → 0 ≤ e.wo ∧ e.wo < 8) := by
  obtain ⟨_, hh, _⟩ := do_split hd
  exact (has_parts ok hh).2
theorem trialB_vol : ∀ (l : List Ev) (S : Bs), (trialB S l).2.vol = S.vol
  | [], S => rfl
  | e :: l, S => by
    cases hd : doB S e with
    | none => rw [trialB_stop hd]
    | some T => rw [trialB_go hd]; exact (trialB_vol l T).trans (do_vol hd)
end
/-- Events out of cells. -/
theorem evs_of18 {w : World} : ∀ (n : Nat) (xs : List Value), xs.length = n * 5 → (∀ i, i < n → AreKd w kEv14 ((xs.drop (i * 5)).take 5)) → ∃ l : List Ev, l.length = n ∧ xs = cat Ev.enc l
  | 0, xs, h, _ => ⟨[], rfl, List.eq_nil_of_length_eq_zero (by omega)⟩
  | n + 1, xs, h, hk => by
    obtain ⟨x, he⟩ := ev_cells14 (hk 0 (by omega))
    obtain ⟨l, hl, hx⟩ := evs_of18 n (xs.drop 5) (by rw [List.length_drop]; omega) (fun i hi => by
      have := hk (i + 1) (by omega)
      rw [List.drop_drop]
      rwa [show 5 + i * 5 = (i + 1) * 5 by omega])
    refine ⟨x :: l, by simp [hl], ?_⟩
    rw [cat_cons, ← hx]
    rw [Nat.zero_mul, List.drop_zero] at he
    rw [← he, List.take_append_drop]
end Go.Proofs.Ytnocekhgabgffaa
