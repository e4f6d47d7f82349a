/- Events chosen, cut and counted: no walk. No condition. -/
import Derived.Test.YtfkiejhdfngmnaaSeo
import Derived.Test.YtfkiejhdfngmnaaEvt
namespace Go.Proofs.Ytfkiejhdfngmnaa
open Go.RowKit
set_option linter.unusedVariables false
set_option maxHeartbeats 1000000

/-! ### Which events are chosen -/
def ofP (k c : Int) (e : Ev) : Bool := (k == 0 || e.kd == k) && (c == -1 || e.co == c)
def tellP (c : Int) (e : Ev) : Bool := e.kd == 8 && e.co == c
def storeP (l o : Int) (e : Ev) : Bool := e.kd == 3 && e.li == l && e.wo == o
def ofE (k c : Int) (l : List Ev) : List Ev := l.filter (ofP k c)
def tellV (c : Int) (l : List Ev) : List Int := (l.filter (tellP c)).map Ev.va
def storeV (s o : Int) (l : List Ev) : List Int := (l.filter (storeP s o)).map Ev.va
theorem filter_more {α : Type} {p : α → Bool} {xs : List α} {k : Nat} {x : α} (h : xs[k]? = some x) : (xs.take (k + 1)).filter p = (xs.take k).filter p ++ (if p x = true then [x] else []) := by
  obtain ⟨h1, e1⟩ := List.getElem?_eq_some_iff.1 h
  rw [List.take_succ_eq_append_getElem h1, e1, List.filter_append]
  congr 1
  by_cases hp : p x = true
  · simp [hp]
  · simp [hp]
theorem filter_yes {α : Type} {p : α → Bool} {xs : List α} {k : Nat} {x : α} (h : xs[k]? = some x) (hp : p x = true) : (xs.take (k + 1)).filter p = (xs.take k).filter p ++ [x] := by rw [filter_more h, if_pos hp]
theorem filter_no {α : Type} {p : α → Bool} {xs : List α} {k : Nat} {x : α} (h : xs[k]? = some x) (hp : p x = false) : (xs.take (k + 1)).filter p = (xs.take k).filter p := by rw [filter_more h, hp]; simp
theorem filter_le {α : Type} (p : α → Bool) (xs : List α) (k : Nat) : ((xs.take k).filter p).length ≤ k := Nat.le_trans (List.length_filter_le ..) (by rw [List.length_take]; exact Nat.min_le_left ..)
/-- Words. -/
def ue (v : Int) : List Value := [.int .u64 v]
theorem ue_len (v : Int) : (ue v).length = 1 := rfl
theorem ue_one (v : Int) : ∀ x ∈ ue v, x.oneCell' = true := by intro x hx; simp only [ue, List.mem_singleton] at hx; subst hx; rfl
/-- A slice as an element. -/
structure Rf where
  A : Option Addr
  n : Nat
  c : Nat
def Rf.val (r : Rf) : Value := .slice r.A r.n r.c
def re (r : Rf) : List Value := [.slice r.A r.n r.c]
theorem re_len (r : Rf) : (re r).length = 1 := rfl
theorem re_one (r : Rf) : ∀ x ∈ re r, x.oneCell' = true := by intro x hx; simp only [re, List.mem_singleton] at hx; subst hx; rfl

/-! ### Cut at the failures -/
def cutStep (s : List (List Ev) × List Ev) (e : Ev) : List (List Ev) × List Ev := if e.kd = 11 then (s.1 ++ [s.2], []) else (s.1, s.2 ++ [e])
def cutS (l : List Ev) : List (List Ev) × List Ev := l.foldl cutStep ([], [])
def cutL (l : List Ev) : List (List Ev) := (cutS l).1 ++ [(cutS l).2]
theorem cutS_snoc (l : List Ev) (e : Ev) : cutS (l ++ [e]) = cutStep (cutS l) e := by simp [cutS]
theorem cutS_more {l : List Ev} {k : Nat} {e : Ev} (h : l[k]? = some e) : cutS (l.take (k + 1)) = cutStep (cutS (l.take k)) e := by
  obtain ⟨h1, e1⟩ := List.getElem?_eq_some_iff.1 h
  rw [List.take_succ_eq_append_getElem h1, e1, cutS_snoc]
/-- The same from the head. -/
def cutR : List Ev → List Ev × List (List Ev)
  | [] => ([], [])
  | e :: l => if e.kd = 11 then ([], (cutR l).1 :: (cutR l).2) else (e :: (cutR l).1, (cutR l).2)
theorem cutS_R : ∀ (l : List Ev) (D : List (List Ev)) (P : List Ev), (l.foldl cutStep (D, P)).1 ++ [(l.foldl cutStep (D, P)).2] = D ++ (P ++ (cutR l).1) :: (cutR l).2
  | [], D, P => by simp [cutR]
  | e :: l, D, P => by
    rw [List.foldl_cons]
    by_cases h : e.kd = 11
    · rw [show cutStep (D, P) e = (D ++ [P], []) by simp [cutStep, h], cutS_R l]
      simp [cutR, h]
    · rw [show cutStep (D, P) e = (D, P ++ [e]) by simp [cutStep, h], cutS_R l]
      simp [cutR, h]
def cutN (l : List Ev) : List (List Ev) := (cutR l).1 :: (cutR l).2
theorem cutL_N (l : List Ev) : cutL l = cutN l := by
  have := cutS_R l [] []
  simpa [cutL, cutS, cutN] using this
theorem cutN_fail {e : Ev} {l : List Ev} (h : e.kd = 11) : cutN (e :: l) = [] :: cutN l := by simp [cutN, cutR, h]
theorem cutN_more {e : Ev} {l : List Ev} (h : e.kd ≠ 11) : ∃ p ps, cutN l = p :: ps ∧ cutN (e :: l) = (e :: p) :: ps := ⟨_, _, rfl, by simp [cutN, cutR, h]⟩
theorem cutN_count : ∀ l : List Ev, (cutN l).length = (ofE 11 (-1) l).length + 1
  | [] => rfl
  | e :: l => by
    have ih := cutN_count l
    by_cases h : e.kd = 11
    · rw [cutN_fail h, List.length_cons, ih]; simp [ofE, ofP, h]
    · obtain ⟨p, ps, h1, h2⟩ := cutN_more (l := l) h
      rw [h1] at ih
      rw [h2]
      have e2 : ofE 11 (-1) (e :: l) = ofE 11 (-1) l := by simp [ofE, ofP, h]
      rw [e2, ← ih]; rfl
/-- Where part i begins. -/
def stN (ps : List (List Ev)) (i : Nat) : Nat := ((ps.take i).map fun p => p.length + 1).sum
theorem stN_zero (ps : List (List Ev)) : stN ps 0 = 0 := rfl
theorem stN_cons (p : List Ev) (ps : List (List Ev)) (i : Nat) : stN (p :: ps) (i + 1) = p.length + 1 + stN ps i := by simp [stN]
theorem stN_next : ∀ {ps : List (List Ev)} {i : Nat} {p : List Ev}, ps[i]? = some p → stN ps (i + 1) = stN ps i + p.length + 1
  | [], i, p, h => by simp at h
  | q :: ps, 0, p, h => by
    cases h
    simp [stN]
  | q :: ps, i + 1, p, h => by
    rw [List.getElem?_cons_succ] at h
    rw [stN_cons, stN_cons, stN_next h]; omega
theorem cutN_at : ∀ (l : List Ev) (i : Nat) (p : List Ev), (cutN l)[i]? = some p → ∀ k, k < p.length → ∃ e, l[stN (cutN l) i + k]? = some e ∧ p[k]? = some e ∧ e.kd ≠ 11
  | [], i, p, h, k, hk => by
    cases i with
    | zero => cases h; simp [cutR] at hk
    | succ i => simp [cutN, cutR] at h
  | e :: l, i, p, h, k, hk => by
    by_cases hf : e.kd = 11
    · rw [cutN_fail hf] at h ⊢
      cases i with
      | zero => cases h; simp at hk
      | succ i =>
        rw [List.getElem?_cons_succ] at h
        obtain ⟨x, h1, h2, h3⟩ := cutN_at l i p h k hk
        refine ⟨x, ?_, h2, h3⟩
        rw [stN_cons, show ([] : List Ev).length + 1 + stN (cutN l) i + k = (stN (cutN l) i + k) + 1 by simp; omega, List.getElem?_cons_succ]
        exact h1
    · obtain ⟨q, qs, h1, h2⟩ := cutN_more (l := l) hf
      rw [h2] at h ⊢
      cases i with
      | zero =>
        cases h
        cases k with
        | zero => exact ⟨e, rfl, rfl, hf⟩
        | succ k =>
          obtain ⟨x, h3, h4, h5⟩ := cutN_at l 0 q (by rw [h1]; rfl) k (by simpa using hk)
          refine ⟨x, ?_, by rw [List.getElem?_cons_succ]; exact h4, h5⟩
          rw [stN_zero, Nat.zero_add] at h3 ⊢
          rw [List.getElem?_cons_succ]; exact h3
      | succ i =>
        rw [List.getElem?_cons_succ] at h
        obtain ⟨x, h3, h4, h5⟩ := cutN_at l (i + 1) p (by rw [h1, List.getElem?_cons_succ]; exact h) k hk
        refine ⟨x, ?_, h4, h5⟩
        rw [h1, stN_cons] at h3
        rw [stN_cons, show (e :: q).length + 1 + stN qs i + k = (q.length + 1 + stN qs i + k) + 1 by simp; omega, List.getElem?_cons_succ]
        exact h3
theorem cutN_fails : ∀ (l : List Ev) (i : Nat), i + 1 < (cutN l).length → ∃ e, l[stN (cutN l) (i + 1) - 1]? = some e ∧ e.kd = 11
  | [], i, h => by simp [cutN, cutR] at h
  | e :: l, i, h => by
    by_cases hf : e.kd = 11
    · rw [cutN_fail hf] at h ⊢
      cases i with
      | zero => exact ⟨e, by simp [stN_cons, stN_zero], hf⟩
      | succ i =>
        obtain ⟨x, h1, h2⟩ := cutN_fails l i (by simpa using h)
        refine ⟨x, ?_, h2⟩
        have hp : 0 < stN (cutN l) (i + 1) := by unfold cutN; rw [stN_cons]; omega
        rw [stN_cons, show ([] : List Ev).length + 1 + stN (cutN l) (i + 1) - 1 = (stN (cutN l) (i + 1) - 1) + 1 by simp; omega, List.getElem?_cons_succ]
        exact h1
    · obtain ⟨q, qs, h1, h2⟩ := cutN_more (l := l) hf
      rw [h2] at h ⊢
      obtain ⟨x, h3, h4⟩ := cutN_fails l i (by rw [h1]; simpa using h)
      refine ⟨x, ?_, h4⟩
      rw [h1, stN_cons] at h3
      rw [stN_cons, show (e :: q).length + 1 + stN qs i - 1 = (q.length + 1 + stN qs i - 1) + 1 by simp; omega, List.getElem?_cons_succ]
      exact h3
theorem cutN_end : ∀ l : List Ev, stN (cutN l) (cutN l).length = l.length + 1
  | [] => by simp [cutN, cutR, stN]
  | e :: l => by
    have ih := cutN_end l
    by_cases hf : e.kd = 11
    · rw [cutN_fail hf, List.length_cons, stN_cons, ih]; simp; omega
    · obtain ⟨q, qs, h1, h2⟩ := cutN_more (l := l) hf
      rw [h1, List.length_cons, stN_cons] at ih
      rw [h2, List.length_cons, stN_cons, List.length_cons, List.length_cons]
      omega
theorem stN_up (ps : List (List Ev)) (i : Nat) : stN ps i ≤ stN ps (i + 1) := by
  cases h : ps[i]? with
  | some p => rw [stN_next h]; omega
  | none =>
    have h1 := List.getElem?_eq_none_iff.1 h
    unfold stN
    rw [List.take_of_length_le h1, List.take_of_length_le (by omega)]
    exact Nat.le_refl _
theorem stN_le (ps : List (List Ev)) {i j : Nat} (h : i ≤ j) : stN ps i ≤ stN ps j := by
  induction h with
  | refl => exact Nat.le_refl _
  | step _ ih => exact Nat.le_trans ih (stN_up ps _)
theorem cutN_len (l : List Ev) : (cutN l).length ≤ l.length + 1 := by
  rw [cutN_count]
  have : (ofE 11 (-1) l).length ≤ l.length := List.length_filter_le ..
  omega
theorem tellV_append (c : Int) (l m : List Ev) : tellV c (l ++ m) = tellV c l ++ tellV c m := by simp [tellV]
theorem tellV_le (c : Int) (l : List Ev) : (tellV c l).length ≤ l.length := by
  unfold tellV
  rw [List.length_map]
  exact List.length_filter_le ..

/-! ### All kinds together -/
def inP (j : Int) (e : Ev) : Bool := decide (-1 ≤ e.kd) && decide (e.kd < j) && !(e.kd == 0)
def outP (e : Ev) : Bool := decide (e.kd < -1) || e.kd == 0 || decide (20 < e.kd)
def toldP (c : Int) (e : Ev) : Bool := c == -1 && e.kd == 8 && !(e.co == -1)
theorem ofE_all (l : List Ev) : ofE 0 (-1) l = l := by
  unfold ofE
  exact List.filter_eq_self.2 (by intro a _; rfl)
theorem in_start (l : List Ev) : (l.filter (inP (-1))).length = 0 := by
  rw [List.length_eq_zero_iff, List.filter_eq_nil_iff]
  intro a _
  simp [inP]
  omega
theorem in_zero (l : List Ev) : l.filter (inP 1) = l.filter (inP 0) := by
  apply List.filter_congr
  intro a _
  simp only [inP]
  by_cases h : a.kd = 0
  · simp [h]
  · have : decide (a.kd < 1) = decide (a.kd < 0) := by apply decide_eq_decide.2; omega
    rw [this]
theorem in_next (j : Int) (h0 : j ≠ 0) (h1 : -1 ≤ j) : ∀ l : List Ev, (l.filter (inP (j + 1))).length = (l.filter (inP j)).length + (ofE j (-1) l).length
  | [] => rfl
  | e :: l => by
    have ih := in_next j h0 h1 l
    unfold ofE at ih ⊢
    have e1 : inP (j + 1) e = (inP j e || ofP j (-1) e) := by
      simp only [inP, ofP]
      by_cases hk : e.kd = j
      · subst hk; simp [h0, h1]; omega
      · have : decide (e.kd < j + 1) = decide (e.kd < j) := by apply decide_eq_decide.2; omega
        rw [this]; simp [hk, h0]
    have e2 : (inP j e && ofP j (-1) e) = false := by
      simp only [inP, ofP]
      by_cases hk : e.kd = j
      · subst hk; simp
      · simp [hk, h0]
    simp only [List.filter_cons, e1]
    cases h3 : inP j e <;> cases h4 : ofP j (-1) e
    · simpa using ih
    · simp only [Bool.false_or, if_true, List.length_cons]; simp; omega
    · simp only [Bool.true_or, if_true, List.length_cons]; simp; omega
    · rw [h3, h4] at e2; cases e2
theorem in_end : ∀ l : List Ev, (l.filter (inP 21)).length + (l.filter outP).length = l.length
  | [] => rfl
  | e :: l => by
    have ih := in_end l
    have e1 : outP e = !(inP 21 e) := by
      simp only [outP, inP]
      by_cases h0 : e.kd = 0
      · simp [h0]
      · have t0 : (e.kd == 0) = false := by simpa using h0
        rw [t0]
        by_cases h1 : e.kd < -1
        · have : ¬ -1 ≤ e.kd := by omega
          simp [h1, this]
        · have t1 : -1 ≤ e.kd := by omega
          by_cases h2 : 20 < e.kd
          · have : ¬ e.kd < 21 := by omega
            simp [h1, h2, t1, this]
          · have : e.kd < 21 := by omega
            simp [h1, h2, t1, this]
    simp only [List.filter_cons, e1]
    cases h : inP 21 e <;> simp <;> omega
theorem told_sum (c : Int) : ∀ l : List Ev, (ofE 8 c l).length = (tellV c l).length + (l.filter (toldP c)).length
  | [] => rfl
  | e :: l => by
    have ih := told_sum c l
    unfold ofE tellV at ih ⊢
    rw [List.length_map] at ih ⊢
    have e1 : ofP 8 c e = (tellP c e || toldP c e) := by
      simp only [ofP, tellP, toldP]
      by_cases h : e.kd = 8
      · by_cases hc : c = -1
        · subst hc; simp [h]
        · have t1 : (c == -1) = false := by simpa using hc
          rw [t1]; simp
      · have t1 : (e.kd == 8) = false := by simpa using h
        rw [t1]; simp
    have e2 : (tellP c e && toldP c e) = false := by
      simp only [tellP, toldP]
      by_cases hc : c = -1
      · subst hc; by_cases hh : e.co = -1 <;> simp [hh]
      · simp [hc]
    simp only [List.filter_cons, e1]
    cases h3 : tellP c e <;> cases h4 : toldP c e
    · simpa using ih
    · simp only [Bool.false_or, if_true, List.length_cons]; simp; omega
    · simp only [Bool.true_or, if_true, List.length_cons]; simp; omega
    · rw [h3, h4] at e2; cases e2
/-- A search for those that were chosen, one behind the other. -/
theorem sub_step {x y : Ev} {xs ys : List Ev} (h : (x :: xs).Sublist (y :: ys)) : xs.Sublist ys := by
  cases h with
  | cons _ h => exact (List.sublist_cons_self x xs).trans h
  | cons_cons _ h => exact h
theorem sub_skip {x y : Ev} {xs ys : List Ev} (h : (x :: xs).Sublist (y :: ys)) (hne : y ≠ x) : (x :: xs).Sublist ys := by
  cases h with
  | cons _ h => exact h
  | cons_cons _ h => exact absurd rfl hne
theorem sub_begin (k c : Int) (l : List Ev) : (ofE k c l).Sublist l := List.filter_sublist
theorem ofE_kd {k c : Int} {l : List Ev} {i : Nat} {x : Ev} (h : (ofE k c l)[i]? = some x) (h0 : k ≠ 0) : x.kd = k := by
  have := List.mem_of_getElem? h
  simp only [ofE, ofP, List.mem_filter, Bool.and_eq_true, Bool.or_eq_true, beq_iff_eq] at this
  rcases this.2.1 with h | h
  · exact absurd h h0
  · exact h
end Go.Proofs.Ytfkiejhdfngmnaa
