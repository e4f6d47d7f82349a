/- Texts of the walk, one behind the other: Prc Prd. No condition. -/
import Derived.Test.YtadeoflkppiflaaGreatDoorOal
import Derived.Test.YtadeoflkppiflaaGreatDoorOao
section
namespace Go.Proofs.YtadeoflkppiflaaGreatDoor
open Go.RowKit
set_option linter.unusedVariables false
set_option maxHeartbeats 1000000

/-! ### One line: the entry, and all cores -/
def ktOf (e : En) : Int := if e.bu = 2 ∨ e.bu = 5 then 12 else 13
theorem ktOf_or (e : En) : ktOf e = 12 ∨ ktOf e = 13 := by unfold ktOf; split <;> simp
def bOf (e : En) (k : Nat) : Nat := if e.by_ = (k : Int) then (if e.bu = 1 then 1 else if e.bu = 2 then 2 else 0) else 0
def Lo (n : Nat) (e : En) : Prop := e.ow < n ∧ e.by_ < n ∧ (∀ k : Nat, k < 8 → hasM e.sh k = true → k < n) ∧ ∀ k : Nat, k < 8 → hasM e.wa k = true → k < n
structure LI (co : Nat) (cur X : List Int) (e : En) (st : Nat → Nat) (l : Nat → List Int) (U N D : Nat → List Ms) : Prop where
  good : goodE e = true
  lo : Lo co e
  rel : ∀ j : Nat, j < co → Rel cur e.l (ktOf e) (decide (e.ow = (j : Int))) (hasM e.sh j) (hasM e.wa j) (bOf e j) (st j) (l j) (U j) (N j) (D j)
  data : e.he = true → e.ow = -1 → e.l = cur
  mem0 : e.he = false → X = cur
  mem1 : e.he = true → e.di = false → X = e.l
  wait1 : e.bu = 1 → e.ow ≠ -1 → hasM e.wa e.ow = true
  wait2 : e.bu = 2 → ∀ j : Nat, j < 8 → (hasM e.sh j = true ∨ e.ow = (j : Int)) → (j : Int) ≠ e.by_ → hasM e.wa j = true
/-- The line is had here: its words are the memory's. -/
def hereP (e : En) (l : List Int) (h : l.length = 8) : En := if e.he = true then e else (e.setHe true).setL l h
/-- What is told has a form, and is of that line. -/
def TellOk (li : Int) (a : Ms) : Prop := mg a = true ∧ tellsB a.kd = true ∧ a.li = li ∧ a.kd ≠ 14
theorem tellOk4 {li : Int} (h : lineB li = true) (kt : Int) (hk : kt = 11 ∨ kt = 12 ∨ kt = 13) : TellOk li (ms4 kt li false false) := by
  refine ⟨?_, ?_, rfl, by show kt ≠ 14; omega⟩
  · rcases hk with rfl | rfl | rfl <;> simp [mg, ms4, kindB, h]
  · rcases hk with rfl | rfl | rfl <;> rfl
theorem tellOk5 {li : Int} (h : lineB li = true) (kt : Int) (hk : kt = 8 ∨ kt = 9 ∨ kt = 10) (l : List Int) (hl : l.length = 8) : TellOk li (ms5 kt li l hl) := by
  refine ⟨?_, ?_, rfl, by show kt ≠ 14; omega⟩
  · rcases hk with rfl | rfl | rfl <;> simp [mg, ms5, kindB, mayW, h]
  · rcases hk with rfl | rfl | rfl <;> rfl
theorem bOf_0 {e : En} (h : e.bu = 0) (k : Nat) : bOf e k = 0 := by unfold bOf; rw [h]; simp
theorem bOf_ne {e : En} {k : Nat} (h : e.by_ ≠ (k : Int)) : bOf e k = 0 := by unfold bOf; rw [if_neg h]
theorem bOf_fl {e : En} (k : Nat) (h : e.bu = 4 ∨ e.bu = 5) : bOf e k = 0 := by unfold bOf; rcases h with h | h <;> rw [h] <;> simp
theorem has_bitN (c : Int) (hc : isC c = true) (j : Nat) : hasM (bitM c) (j : Int) = decide (c = (j : Int)) := by rw [has_bit, hc, Bool.true_and]
section
variable {co : Nat} {cur X : List Int} {e : En} {st : Nat → Nat} {l : Nat → List Int} {U N D : Nat → List Ms}
/-- Nobody is waited for. -/
theorem LI.free (h : LI co cur X e st l U N D) (hh : e.he = true) (hb : e.bu = 0) : Gp e ∧ e.by_ = 0 ∧ e.wa = 0#8 ∧ ∀ j : Nat, j < co → Rel cur e.l (ktOf e) (decide (e.ow = (j : Int))) (hasM e.sh j) false 0 (st j) (l j) (U j) (N j) (D j) := by
  obtain ⟨h1, _, h2, h3⟩ := busy0 hh h.good hb
  refine ⟨h1, h2, h3, fun j hj => ?_⟩
  have := h.rel j hj
  rw [h3, has_zero, bOf_0 hb] at this
  exact this
/-- The line is had here. -/
theorem LI.here (h : LI co cur X e st l U N D) (hX : X.length = 8) : LI co cur X (hereP e X hX) st l U N D ∧ (hereP e X hX).he = true ∧ (hereP e X hX).bu = e.bu := by
  unfold hereP
  by_cases hh : e.he = true
  · rw [if_pos hh]; exact ⟨h, hh, rfl⟩
  · rw [if_neg hh]
    have hh' : e.he = false := by simpa using hh
    have he : e = enE := by
      have := h.good
      unfold goodE at this
      rw [if_neg hh] at this
      simpa using this
    have hc := h.mem0 hh'
    have hr := h.rel
    subst he
    refine ⟨⟨by simp [goodE, goodOw, goodBu, En.setHe, En.setL, enE], h.lo, ?_, fun _ _ => hc, fun h1 => absurd (show true = false from h1) (by decide), fun _ _ => rfl, fun h1 => absurd (show (0 : Int) = 1 from h1) (by decide), fun h1 => absurd (show (0 : Int) = 2 from h1) (by decide)⟩, rfl, rfl⟩
    intro j hj
    have h1 := hr j hj
    have e1 : decide (((enE.setHe true).setL X hX).ow = (j : Int)) = false := by
      show decide ((-1 : Int) = (j : Int)) = false
      exact decide_eq_false (by omega)
    have e2 : decide (enE.ow = (j : Int)) = false := e1
    rw [e2] at h1
    rw [e1]
    exact h1.anyEl _
/-- Somebody has to wait. -/
theorem LI.waits (h : LI co cur X e st l U N D) (h8 : co ≤ 8) (hh : e.he = true) (hb : e.bu = 0) {k : Nat} (hk : k < co) {m : Ms} {kt : Int} {o : Mk} (hkt : kt = if m.kd = 2 ∨ m.kd = 5 then 12 else 13) (hkd : m.kd = 1 ∨ m.kd = 2 ∨ m.kd = 4 ∨ m.kd = 5)
    (hg : goodE (waitE e k m o kt).1 = true) (ho : ∀ j : Nat, j < 8 → hasM o j = true → hasM e.sh j = true ∨ e.ow = (j : Int)) (h13 : kt = 13 → ∀ j : Nat, j < 8 → hasM o j = true → e.ow = (j : Int))
    {U' : Nat → List Ms} (hU : ∀ j, j ≠ k → U' j = U j) (hU2 : m.kd = 4 ∨ m.kd = 5 → U' k = U k) (hR : m.kd = 1 ∨ m.kd = 2 → hasM o k = false ∧ Rel cur e.l kt (decide (e.ow = (k : Int))) (hasM e.sh k) false m.kd.toNat (st k) (l k) (U' k) (N k) (D k))
    (w1 : m.kd = 1 → e.ow ≠ -1 → hasM o e.ow = true) (w2 : m.kd = 2 → ∀ j : Nat, j < 8 → (hasM e.sh j = true ∨ e.ow = (j : Int)) → (j : Int) ≠ k → hasM o j = true) :
    LI co cur X (waitE e k m o kt).1 st l U' N (fun j => D j ++ if hasM o j = true then [ms4 kt m.li false false] else []) := by
  obtain ⟨g1, g2, g3, hr⟩ := h.free hh hb
  refine ⟨hg, ⟨h.lo.1, by show (k : Int) < co; omega, h.lo.2.2.1, ?_⟩, ?_, h.data, h.mem0, h.mem1, w1, w2⟩
  · intro j hj h1
    rcases ho j hj h1 with h2 | h2
    · exact h.lo.2.2.1 j hj h2
    · have := h.lo.1; omega
  · intro j hj
    have hkt' : ktOf (waitE e k m o kt).1 = kt := by rw [hkt]; rfl
    rw [hkt']
    show Rel cur e.l kt (decide (e.ow = (j : Int))) (hasM e.sh j) (hasM o j) (bOf (waitE e k m o kt).1 j) (st j) (l j) (U' j) (N j) (D j ++ if hasM o j = true then [ms4 kt m.li false false] else [])
    have hby : (waitE e k m o kt).1.by_ = (k : Int) := rfl
    have hbu : (waitE e k m o kt).1.bu = m.kd := rfl
    by_cases hjk : j = k
    · subst hjk
      by_cases hf : m.kd = 4 ∨ m.kd = 5
      · rw [hU2 hf, bOf_fl j (by rw [hbu]; exact hf)]
        cases h1 : hasM o (j : Int)
        · simp only [Bool.false_eq_true, if_false, List.append_nil]
          exact ((hr j hj).anyKt kt).1
        · rw [if_pos rfl]
          refine (hr j hj).tell kt _ rfl ?_ ?_
          · rcases ho j (by omega) h1 with h2 | h2 <;> simp [h2]
          · intro h2; simpa using h13 h2 j (by omega) h1
      · have h12 : m.kd = 1 ∨ m.kd = 2 := by omega
        obtain ⟨a, b⟩ := hR h12
        rw [a]
        simp only [Bool.false_eq_true, if_false, List.append_nil]
        have : bOf (waitE e j m o kt).1 j = m.kd.toNat := by
          unfold bOf
          rw [if_pos hby, hbu]
          rcases h12 with h | h <;> rw [h] <;> rfl
        rw [this]
        exact b
    · rw [hU j hjk, bOf_ne (by rw [hby]; omega)]
      cases h1 : hasM o (j : Int)
      · simp only [Bool.false_eq_true, if_false, List.append_nil]
        exact ((hr j hj).anyKt kt).1
      · rw [if_pos rfl]
        refine (hr j hj).tell kt _ rfl ?_ ?_
        · rcases ho j (by omega) h1 with h2 | h2 <;> simp [h2]
        · intro h2; simpa using h13 h2 j (by omega) h1
/-- One core has the line alone. -/
theorem LI.owns {kt0 : Int} (h8 : co ≤ 8) (hh : e.he = true) (hb : e.bu = 0) (hby : e.by_ = 0) (hw : e.wa = 0#8) {k : Nat} (hk : k < co) {kd li : Int} (hg : goodE (ownedE e k kd li).1 = true) (hc : e.l = cur)
    (hm1 : e.di = false → X = e.l) (hn : ∀ j : Nat, j < co → j ≠ k → hasM e.sh j = false ∧ e.ow ≠ (j : Int)) {U' : Nat → List Ms} (hr : ∀ j : Nat, j < co → j ≠ k → Rel cur e.l kt0 (decide (e.ow = (j : Int))) (hasM e.sh j) false 0 (st j) (l j) (U' j) (N j) (D j))
    (hR : ∀ a : Ms, a.kd = kd → a.l = cur → Rel cur e.l 13 true false false 0 (st k) (l k) (U' k) (N k) (D k ++ [a])) :
    LI co cur X (ownedE e k kd li).1 st l U' N (fun j => D j ++ if hasM (bitM (k : Int)) j = true then [ms5 kd li e.l e.h] else []) := by
  have hbu : (ownedE e k kd li).1.bu = 0 := hb
  refine ⟨hg, ⟨by show (k : Int) < co; omega, by show e.by_ < co; omega, fun j _ h1 => ?_, fun j _ h1 => ?_⟩, ?_, fun _ h1 => ?_, fun h1 => ?_, fun _ => hm1, fun h1 => ?_, fun h1 => ?_⟩
  · have h2 : hasM 0#8 (j : Int) = true := h1
    rw [has_zero] at h2; cases h2
  · have h2 : hasM e.wa (j : Int) = true := h1
    rw [hw, has_zero] at h2; cases h2
  · intro j hj
    show Rel cur e.l (ktOf (ownedE e k kd li).1) (decide ((k : Int) = (j : Int))) (hasM 0#8 j) (hasM e.wa j) (bOf (ownedE e k kd li).1 j) (st j) (l j) (U' j) (N j) (D j ++ if hasM (bitM (k : Int)) j = true then [ms5 kd li e.l e.h] else [])
    rw [bOf_0 hbu, hw, has_zero, has_bitN _ (isC_cast (by omega)), show ktOf (ownedE e k kd li).1 = 13 by unfold ktOf; rw [hbu]; rfl]
    by_cases hjk : j = k
    · subst hjk
      rw [decide_eq_true rfl, if_pos rfl]
      exact hR _ rfl hc
    · rw [decide_eq_false (by omega)]
      simp only [Bool.false_eq_true, if_false, List.append_nil]
      have h1 := hr j hj hjk
      obtain ⟨h2, h3⟩ := hn j hj hjk
      rw [h2, decide_eq_false h3] at h1
      obtain ⟨_, h4, h5⟩ := h1.none cur e.l 13
      rw [h4]; exact h5
  · have h2 : (k : Int) = -1 := h1
    omega
  · exact absurd (hh.symm.trans h1) (by decide)
  · exact absurd (hbu.symm.trans h1) (by decide)
  · exact absurd (hbu.symm.trans h1) (by decide)
/-- One more may read the line. -/
theorem LI.shares {kt0 : Int} (h8 : co ≤ 8) (hh : e.he = true) (hb : e.bu = 0) (hby : e.by_ = 0) (hw : e.wa = 0#8) {k : Nat} (hk : k < co) {li : Int} (hg : goodE (sharedE e k li).1 = true) (hc : e.l = cur) (hlo : ∀ j : Nat, j < 8 → hasM e.sh j = true → j < co)
    (hm1 : e.di = false → X = e.l) (hn : e.ow = -1) {U' : Nat → List Ms} (hr : ∀ j : Nat, j < co → j ≠ k → Rel cur e.l kt0 (decide (e.ow = (j : Int))) (hasM e.sh j) false 0 (st j) (l j) (U' j) (N j) (D j))
    (hR : ∀ a : Ms, a.kd = 8 → a.l = cur → Rel cur e.l 13 false true false 0 (st k) (l k) (U' k) (N k) (D k ++ [a])) :
    LI co cur X (sharedE e k li).1 st l U' N (fun j => D j ++ if hasM (bitM (k : Int)) j = true then [ms5 8 li e.l e.h] else []) := by
  have hbu : (sharedE e k li).1.bu = 0 := hb
  have hkC : isC (k : Int) = true := isC_cast (by omega)
  refine ⟨hg, ⟨by show e.ow < co; omega, by show e.by_ < co; omega, fun j hj h1 => ?_, fun j _ h1 => ?_⟩, ?_, fun _ _ => hc, fun h1 => ?_, fun _ => hm1, fun h1 => ?_, fun h1 => ?_⟩
  · have h2 : hasM (e.sh ||| bitM (k : Int)) (j : Int) = true := h1
    rw [has_or, has_bitN _ hkC, Bool.or_eq_true, decide_eq_true_eq] at h2
    rcases h2 with h2 | h2
    · exact hlo j hj h2
    · omega
  · have h2 : hasM e.wa (j : Int) = true := h1
    rw [hw, has_zero] at h2; cases h2
  · intro j hj
    show Rel cur e.l (ktOf (sharedE e k li).1) (decide (e.ow = (j : Int))) (hasM (e.sh ||| bitM (k : Int)) j) (hasM e.wa j) (bOf (sharedE e k li).1 j) (st j) (l j) (U' j) (N j) (D j ++ if hasM (bitM (k : Int)) j = true then [ms5 8 li e.l e.h] else [])
    rw [bOf_0 hbu, hw, has_zero, has_or, has_bitN _ hkC, show ktOf (sharedE e k li).1 = 13 by unfold ktOf; rw [hbu]; rfl]
    by_cases hjk : j = k
    · subst hjk
      rw [decide_eq_true rfl, if_pos rfl, Bool.or_true, decide_eq_false (by omega)]
      exact hR _ rfl hc
    · rw [decide_eq_false (show ¬ (k : Int) = (j : Int) by omega), Bool.or_false]
      simp only [Bool.false_eq_true, if_false, List.append_nil]
      exact ((hr j hj hjk).anyKt 13).1
  · exact absurd (hh.symm.trans h1) (by decide)
  · exact absurd (hbu.symm.trans h1) (by decide)
  · exact absurd (hbu.symm.trans h1) (by decide)
/-- A request reaches the directory. -/
theorem LI.deed (h : LI co cur X e st l U N D) (h8 : co ≤ 8) (hh : e.he = true) (hb : e.bu = 0) {k : Nat} (hk : k < co) {m : Ms} (hm : asksB m.kd = true) (hli : lineB m.li = true) {V : List Ms} (hU : m.kd ≤ 3 → U k = m :: V) :
    ∃ (o : Mk) (a : Ms), (deedE e k m).2 = tellL o a ∧ TellOk m.li a ∧ (∀ j : Nat, j < 8 → hasM o j = true → j < co) ∧
      LI co cur X (deedE e k m).1 st l (fun j => if m.kd ≤ 3 ∧ j = k then V else U j) N (fun j => D j ++ if hasM o j = true then [a] else []) := by
  obtain ⟨g1, g2, g3, hr⟩ := h.free hh hb
  have hkC : isC (k : Int) = true := isC_cast (by omega)
  have fit := ask_fit h.good hh hb hkC hm
  have hkk : m.kd = 1 ∨ m.kd = 2 ∨ m.kd = 3 ∨ m.kd = 4 ∨ m.kd = 5 := by simp [asksB] at hm; omega
  have hown : ∀ j : Nat, e.ow = (j : Int) → j < co := fun j hj => by have := h.lo.1; omega
  have hoB : ∀ j : Nat, hasM (bitM (k : Int)) (j : Int) = true → j < co := fun j hj => by rw [has_bitN _ hkC, decide_eq_true_eq] at hj; omega
  rcases hkk with kd | kd | kd | kd | kd
  · rw [show deedE e k m = getSE e k m by simp [deedE, kd]] at fit ⊢
    have hUk := hU (by omega)
    have hrk := hr k hk
    rw [hUk] at hrk
    obtain ⟨n1, n2, r1, r2, r3⟩ := hrk.getS kd
    have n1' : e.ow ≠ (k : Int) := by simpa using n1
    unfold getSE at fit ⊢
    by_cases hc : e.ow ≠ -1 ∧ e.ow ≠ k
    · rw [if_pos hc] at fit ⊢
      have hoC : isC e.ow = true := by
        rcases g1 with h1 | h1
        · exact absurd h1 hc.1
        · exact h1.1
      refine ⟨_, _, rfl, tellOk4 hli 13 (by omega), fun j _ h1 => ?_, ?_⟩
      · rw [has_bitN _ hoC, decide_eq_true_eq] at h1; exact hown j h1
      · refine h.waits h8 hh hb hk (kt := 13) (by rw [kd]; rfl) (.inl kd) fit.2.1 hold_bit ?_ ?_ ?_ ?_ (fun _ _ => has_self hoC) (fun h1 => by omega)
        · intro _ j _ h1; rw [has_bitN _ hoC, decide_eq_true_eq] at h1; exact h1
        · intro j hj; simp [hj]
        · intro h1; omega
        · intro _
          refine ⟨by rw [has_bitN _ hoC]; simpa using hc.2, ?_⟩
          simp only [and_true, if_pos (show m.kd ≤ 3 by omega)]
          rw [n1, n2, kd]
          exact r1 _ _
    · rw [if_neg hc] at fit ⊢
      have hone : e.ow = -1 := by
        by_cases h1 : e.ow = -1
        · exact h1
        · exact absurd ⟨h1, n1'⟩ hc
      by_cases hs : e.sh = 0#8
      · rw [if_pos hs] at fit ⊢
        refine ⟨_, _, rfl, tellOk5 hli 9 (by omega) _ _, fun j _ h1 => hoB j h1, ?_⟩
        refine LI.owns h8 hh hb g2 g3 hk fit.2.1 (h.data hh hone) (h.mem1 hh) ?_ (kt0 := ktOf e) ?_ ?_
        · intro j _ _; exact ⟨by rw [hs, has_zero], by omega⟩
        · intro j hj hjk
          rw [if_neg (by simp [hjk])]
          exact hr j hj
        · intro a h1 h2
          simp only [and_true, if_pos (show m.kd ≤ 3 by omega)]
          exact r3 _ a h1 h2 (h.data hh hone)
      · rw [if_neg hs] at fit ⊢
        refine ⟨_, _, rfl, tellOk5 hli 8 (by omega) _ _, fun j _ h1 => hoB j h1, ?_⟩
        refine LI.shares h8 hh hb g2 g3 hk fit.2.1 (h.data hh hone) h.lo.2.2.1 (h.mem1 hh) hone (kt0 := ktOf e) ?_ ?_
        · intro j hj hjk
          rw [if_neg (by simp [hjk])]
          exact hr j hj
        · intro a h1 h2
          simp only [and_true, if_pos (show m.kd ≤ 3 by omega)]
          exact r2 _ a h1 h2
  · rw [show deedE e k m = getME e k m by simp [deedE, kd]] at fit ⊢
    have hUk := hU (by omega)
    have hrk := hr k hk
    rw [hUk] at hrk
    obtain ⟨n1, r1, r3⟩ := hrk.getM kd
    have n1' : e.ow ≠ (k : Int) := by simpa using n1
    have hoth : ∀ j : Nat, j < 8 → (hasM (holders e &&& ~~~(bitM (k : Int))) (j : Int) = true ↔ (hasM e.sh j = true ∨ e.ow = (j : Int)) ∧ j ≠ k) := by
      intro j hj
      rw [has_not, Bool.and_eq_true, has_holders e hj, Bool.not_eq_true', has_bitN _ hkC, decide_eq_false_iff_not]
      exact and_congr_right fun _ => not_congr (by omega)
    unfold getME at fit ⊢
    by_cases hc : (holders e &&& ~~~(bitM (k : Int))) = 0#8
    · rw [if_pos hc] at fit ⊢
      have hnone : ∀ j : Nat, j < 8 → j ≠ k → hasM e.sh j = false ∧ e.ow ≠ (j : Int) := by
        intro j hj hjk
        have h1 := hoth j hj
        rw [hc, has_zero] at h1
        constructor
        · cases h2 : hasM e.sh (j : Int)
          · rfl
          · exact absurd (h1.2 ⟨.inl h2, hjk⟩) (by decide)
        · intro h2; exact absurd (h1.2 ⟨.inr h2, hjk⟩) (by decide)
      have hone : e.ow = -1 := by
        rcases g1 with h1 | ⟨h1, _⟩
        · exact h1
        · obtain ⟨j, hj, hj2⟩ := isC_nat h1
          by_cases hjk : j = k
          · subst hjk; exact absurd hj2 n1'
          · exact absurd hj2 (hnone j hj hjk).2
      refine ⟨_, _, rfl, tellOk5 hli 10 (by omega) _ _, fun j _ h1 => hoB j h1, ?_⟩
      refine LI.owns h8 hh hb g2 g3 hk fit.2.1 (h.data hh hone) (h.mem1 hh) (fun j hj hjk => hnone j (by omega) hjk) (kt0 := ktOf e) ?_ ?_
      · intro j hj hjk
        rw [if_neg (by simp [hjk])]
        exact hr j hj
      · intro a h1 h2
        simp only [and_true, if_pos (show m.kd ≤ 3 by omega)]
        exact r3 _ a h1 h2 (h.data hh hone)
    · rw [if_neg hc] at fit ⊢
      refine ⟨_, _, rfl, tellOk4 hli 12 (by omega), fun j hj h1 => ?_, ?_⟩
      · rcases ((hoth j hj).1 h1).1 with h2 | h2
        · exact h.lo.2.2.1 j hj h2
        · exact hown j h2
      · refine h.waits h8 hh hb hk (kt := 12) (by rw [kd]; rfl) (.inr (.inl kd)) fit.2.1 (fun j hj h1 => ((hoth j hj).1 h1).1) (fun h1 => by omega) ?_ ?_ ?_ (fun h1 => by omega) (fun _ j hj h1 h2 => (hoth j hj).2 ⟨h1, by omega⟩)
        · intro j hj; simp [hj]
        · intro h1; omega
        · intro _
          refine ⟨?_, ?_⟩
          · cases h1 : hasM (holders e &&& ~~~(bitM (k : Int))) (k : Int)
            · rfl
            · exact absurd rfl ((hoth k (by omega)).1 h1).2
          · simp only [and_true, if_pos (show m.kd ≤ 3 by omega)]
            rw [n1, kd]
            exact r1 _ _
  · rw [show deedE e k m = putE e k m by simp [deedE, kd]] at fit ⊢
    have hUk := hU (by omega)
    have hrk := hr k hk
    rw [hUk] at hrk
    obtain ⟨r1, r2⟩ := hrk.put kd
    refine ⟨_, _, rfl, tellOk4 hli 11 (by omega), fun j _ h1 => hoB j h1, ?_⟩
    have hw : ∀ x : En, (withoutE x k).he = x.he ∧ (withoutE x k).di = x.di ∧ (withoutE x k).l = x.l ∧ (withoutE x k).ow = (if x.ow = k then -1 else x.ow) ∧ (withoutE x k).sh = x.sh &&& ~~~(bitM (k : Int)) ∧ (withoutE x k).bu = x.bu ∧ (withoutE x k).by_ = x.by_ ∧ (withoutE x k).wa = x.wa := by
      intro x; unfold withoutE; split <;> exact ⟨rfl, rfl, rfl, by simp [*, En.setOw, En.setSh], rfl, rfl, rfl, rfl⟩
    have hp : (putE e k m).1 = withoutE (if e.ow = k then writtenE e m else e) k := rfl
    obtain ⟨q1, q2, q3, q4, q5, q6, q7, q8⟩ := hw (if e.ow = k then writtenE e m else e)
    rw [← hp] at q1 q2 q3 q4 q5 q6 q7 q8
    have hz : (if e.ow = (k : Int) then writtenE e m else e).ow = e.ow ∧ (if e.ow = (k : Int) then writtenE e m else e).sh = e.sh ∧ (if e.ow = (k : Int) then writtenE e m else e).bu = 0 ∧ (if e.ow = (k : Int) then writtenE e m else e).by_ = 0 ∧ (if e.ow = (k : Int) then writtenE e m else e).wa = 0#8 := by
      obtain ⟨_, b2, b3, b4, b5, b6⟩ := written_parts e m
      split
      · exact ⟨b2, b3, b4.trans hb, b5.trans g2, b6.trans g3⟩
      · exact ⟨rfl, rfl, hb, g2, g3⟩
    obtain ⟨z1, z2, z3, z4, z5⟩ := hz
    rw [z1] at q4
    rw [z2] at q5
    rw [z3] at q6
    rw [z4] at q7
    rw [z5] at q8
    have hl : e.ow = (k : Int) → (putE e k m).1.l = cur ∧ (m.di = true → (putE e k m).1.di = true) ∧ (m.di = false → (putE e k m).1.l = e.l ∧ (putE e k m).1.di = e.di) := by
      intro ho
      obtain ⟨s1, s2⟩ := r1 (by simpa using ho)
      rw [q3, q2, if_pos ho]
      unfold writtenE
      cases hd : m.di
      · simp only [Bool.false_eq_true, if_false]
        exact ⟨s2 hd, fun h => (by cases h), fun _ => ⟨trivial, trivial⟩⟩
      · simp only [if_true]
        exact ⟨s1 hd, fun _ => rfl, fun h => by cases h⟩
    have hn : e.ow ≠ (k : Int) → (putE e k m).1.l = e.l ∧ (putE e k m).1.di = e.di := by
      intro ho
      rw [q3, q2, if_neg ho]; exact ⟨rfl, rfl⟩
    have fit1 := fit.1
    have fit2 := fit.2.1
    clear fit hp
    generalize (putE e k m).1 = e' at *
    refine ⟨fit2, ⟨?_, by rw [q7]; omega, fun j hj h1 => ?_, fun j _ h1 => ?_⟩, ?_, fun _ h1 => ?_, fun h1 => ?_, fun _ h1 => ?_, fun h1 => ?_, fun h1 => ?_⟩
    · rw [q4]; split
      · omega
      · exact h.lo.1
    · rw [q5, has_not, Bool.and_eq_true] at h1
      exact h.lo.2.2.1 j hj h1.1
    · rw [q8, has_zero] at h1; cases h1
    · intro j hj
      rw [q5, q8, has_zero, bOf_0 q6, has_not, has_bitN _ hkC, show ktOf e' = 13 by unfold ktOf; rw [q6]; rfl]
      by_cases hjk : j = k
      · subst hjk
        rw [decide_eq_true rfl, if_pos rfl]
        have e1 : decide (e'.ow = (j : Int)) = false := by
          rw [q4]; split
          · exact decide_eq_false (by omega)
          · rename_i h2; simpa using h2
        rw [e1]
        simp only [and_true, if_pos (show m.kd ≤ 3 by omega), Bool.not_true, Bool.and_false]
        exact r2 _ _ _ _ rfl
      · rw [decide_eq_false (show ¬ (k : Int) = (j : Int) by omega), if_neg (show ¬ (m.kd ≤ 3 ∧ j = k) by simp [hjk])]
        simp only [Bool.false_eq_true, if_false, List.append_nil, Bool.not_false, Bool.and_true]
        have h2 := ((hr j hj).anyKt 13).1
        by_cases ho : e.ow = (k : Int)
        · rw [q4, if_pos ho, decide_eq_false (show ¬ ((-1 : Int) = (j : Int)) by omega)]
          rw [decide_eq_false (by omega)] at h2
          exact h2.anyEl _
        · rw [q4, if_neg ho, (hn ho).1]
          exact h2
    · by_cases ho : e.ow = (k : Int)
      · exact (hl ho).1
      · rw [q4, if_neg ho] at h1
        rw [(hn ho).1]; exact h.data hh h1
    · exact absurd (fit1.symm.trans h1) (by decide)
    · by_cases ho : e.ow = (k : Int)
      · cases hd : m.di
        · rw [((hl ho).2.2 hd).1]
          exact h.mem1 hh (by rw [← ((hl ho).2.2 hd).2]; exact h1)
        · exact absurd (((hl ho).2.1 hd).symm.trans h1) (by decide)
      · rw [(hn ho).1]
        exact h.mem1 hh (by rw [← (hn ho).2]; exact h1)
    · exact absurd (q6.symm.trans h1) (by decide)
    · exact absurd (q6.symm.trans h1) (by decide)
  · rw [show deedE e k m = cleanE e k m by simp [deedE, kd]] at fit ⊢
    refine ⟨_, _, rfl, tellOk4 hli 13 (by omega), fun j _ h1 => ?_, ?_⟩
    · rw [has_bit, Bool.and_eq_true, decide_eq_true_eq] at h1; exact hown j h1.2
    · refine h.waits h8 hh hb hk (kt := 13) (by rw [kd]; rfl) (by omega) fit.2.1 hold_bit ?_ ?_ ?_ ?_ (fun h1 => by omega) (fun h1 => by omega)
      · intro _ j _ h1; rw [has_bit, Bool.and_eq_true, decide_eq_true_eq] at h1; exact h1.2
      · intro j hj; simp [hj]
      · intro _; rw [if_neg (by omega)]
      · intro h1; omega
  · rw [show deedE e k m = wipeE e k m by simp [deedE, kd]] at fit ⊢
    refine ⟨_, _, rfl, tellOk4 hli 12 (by omega), fun j hj h1 => ?_, ?_⟩
    · rcases (has_holders e hj).1 h1 with h2 | h2
      · exact h.lo.2.2.1 j hj h2
      · exact hown j h2
    · refine h.waits h8 hh hb hk (kt := 12) (by rw [kd]; rfl) (by omega) fit.2.1 (fun j hj h1 => (has_holders e hj).1 h1) (fun h1 => by omega) ?_ ?_ ?_ (fun h1 => by omega) (fun h1 => by omega)
      · intro j hj; simp [hj]
      · intro _; rw [if_neg (by omega)]
      · intro h1; omega
/-- An answer reaches the directory. -/
theorem LI.answered (h : LI co cur X e st l U N D) (h8 : co ≤ 8) {k : Nat} (hk : k < co) {m : Ms} (hm : answersB m.kd = true) (hg : mg m = true) {V : List Ms} (hN : N k = m :: V) :
    ∃ (o : Mk) (a : Ms), (ansE e k m).2 = 0 ∧ (ansE e k m).1.2 = tellL o a ∧ TellOk m.li a ∧ (∀ j : Nat, j < 8 → hasM o j = true → j < co) ∧
      LI co cur X (ansE e k m).1.1 st l U (fun j => if j = k then V else N j) (fun j => D j ++ if hasM o j = true then [a] else []) := by
  have hkC : isC (k : Int) = true := isC_cast (by omega)
  have hli : lineB m.li = true := by simp only [mg, Bool.and_eq_true] at hg; exact hg.1.1.1.2
  have hrk := h.rel k hk
  rw [hN] at hrk
  obtain ⟨w1, rfl, b1, os, r1, d1, d2, kk⟩ := hrk.answer
  have hh := wait_here h.good w1
  obtain ⟨g1, g2⟩ := (good_here hh).1 h.good
  have harg : ansArg e (k : Int) m = true := by simp [ansArg, h.good, hkC, hg, hm]
  obtain ⟨a1, a2, a3, a4, a5, a6⟩ := answered_parts e (k : Int) m
  obtain ⟨f1, f2, f3⟩ := answered_good (m := m) h.good w1
  have fit := ans_fit (m := m) h.good w1
  -- the words behind the answer
  have hl : (answeredE e (k : Int) m).l = cur ∧ ((answeredE e (k : Int) m).di = false → X = (answeredE e (k : Int) m).l) ∧ (e.ow ≠ (k : Int) → (answeredE e (k : Int) m).l = e.l) := by
    have q : (answeredE e (k : Int) m).l = (writtenE e m).l ∧ (answeredE e (k : Int) m).di = (writtenE e m).di := by
      have hw : ∀ x : En, (withoutE x k).l = x.l ∧ (withoutE x k).di = x.di := by
        intro x; unfold withoutE; split <;> exact ⟨rfl, rfl⟩
      unfold answeredE
      dsimp only
      split
      · exact hw _
      · exact hw _
    rw [q.1, q.2]
    unfold writtenE
    by_cases ho : e.ow = (k : Int)
    · obtain ⟨s1, s2⟩ := d1 (by simpa using ho)
      cases hd : m.di
      · simp only [Bool.false_eq_true, if_false]
        exact ⟨s2 hd, fun h1 => h.mem1 hh h1, fun h1 => trivial⟩
      · simp only [if_true]
        exact ⟨s1 hd, fun h1 => (by cases h1), fun h1 => absurd ho h1⟩
    · have hd := d2 (by simpa using ho)
      rw [hd]
      simp only [Bool.false_eq_true, if_false]
      refine ⟨?_, fun h1 => h.mem1 hh h1, fun _ => trivial⟩
      have hs : hasM e.sh (k : Int) = true := by
        rw [decide_eq_false ho] at os; simpa using os
      refine h.data hh ?_
      rcases g1 with h1 | ⟨_, h1⟩
      · exact h1
      · rw [h1, has_zero] at hs; cases hs
  have hlo : Lo co (answeredE e (k : Int) m) := by
    refine ⟨by rw [f1]; omega, by rw [a5]; exact h.lo.2.1, fun j hj h1 => ?_, fun j hj h1 => ?_⟩
    · rw [a3] at h1
      split at h1
      · rw [has_or, Bool.or_eq_true, has_bitN _ hkC, decide_eq_true_eq, has_not, Bool.and_eq_true] at h1
        rcases h1 with h1 | h1
        · exact h.lo.2.2.1 j hj h1.1
        · omega
      · rw [has_not, Bool.and_eq_true] at h1
        exact h.lo.2.2.1 j hj h1.1
    · rw [a6, has_not, Bool.and_eq_true] at h1
      exact h.lo.2.2.2 j hj h1.1
  -- all cores behind the answer
  have hkt : ktOf (answeredE e (k : Int) m) = ktOf e := by unfold ktOf; rw [a4]
  have hbo : ∀ j : Nat, bOf (answeredE e (k : Int) m) j = bOf e j := fun j => by unfold bOf; rw [a4, a5]
  have hrel : ∀ j : Nat, j < co → Rel cur (answeredE e (k : Int) m).l (ktOf (answeredE e (k : Int) m)) (decide ((answeredE e (k : Int) m).ow = (j : Int))) (hasM (answeredE e (k : Int) m).sh j) (hasM (answeredE e (k : Int) m).wa j) (bOf (answeredE e (k : Int) m) j) (st j) (l j) (U j) ((fun j => if j = k then [] else N j) j) (D j) := by
    intro j hj
    have e1 : decide ((answeredE e (k : Int) m).ow = (j : Int)) = false := by rw [f1]; exact decide_eq_false (by omega)
    rw [e1, hbo, hkt]
    by_cases hjk : j = k
    · subst hjk
      have e2 : hasM (answeredE e (j : Int) m).sh j = m.ke := by
        rw [a3]
        cases m.ke
        · simp only [Bool.false_eq_true, if_false]
          rw [has_not, has_bitN _ hkC]; simp
        · simp only [if_true]
          rw [has_or, has_bitN _ hkC]; simp
      have e3 : hasM (answeredE e (j : Int) m).wa j = false := by
        rw [a6, has_not, has_bitN _ hkC]; simp
      rw [e2, e3, b1]
      simp only [if_true]
      exact r1 _ _
    · have e2 : hasM (answeredE e (k : Int) m).sh j = hasM e.sh j := by
        rw [a3]
        split
        · rw [has_or, has_not, has_bitN _ hkC, decide_eq_false (by omega)]; simp
        · rw [has_not, has_bitN _ hkC, decide_eq_false (by omega)]; simp
      have e3 : hasM (answeredE e (k : Int) m).wa j = hasM e.wa j := by
        rw [a6, has_not, has_bitN _ hkC, decide_eq_false (by omega)]; simp
      rw [e2, e3]
      simp only [hjk, if_false]
      have h1 := h.rel j hj
      have e4 : decide (e.ow = (j : Int)) = false := by
        rw [a2] at f1
        split at f1
        · rename_i h2; exact decide_eq_false (by omega)
        · rw [f1]; exact decide_eq_false (by omega)
      rw [e4] at h1
      exact h1.anyEl _
  have hke : e.bu = 2 → m.ke = false := fun hb => kk (by unfold ktOf; rw [if_pos (.inl hb)])
  have hw2 : e.bu = 2 → ∀ j : Nat, j < 8 → (hasM (answeredE e (k : Int) m).sh j = true ∨ (answeredE e (k : Int) m).ow = (j : Int)) → (j : Int) ≠ e.by_ → hasM (answeredE e (k : Int) m).wa j = true := by
    intro hb j hj h1 h2
    rcases h1 with h1 | h1
    · rw [a3, hke hb] at h1
      simp only [Bool.false_eq_true, if_false] at h1
      rw [has_not, Bool.and_eq_true] at h1
      rw [a6, has_not, h.wait2 hb j hj (.inl h1.1) h2, h1.2]; rfl
    · rw [f1] at h1; omega
  unfold ansE
  rw [if_pos harg, if_pos w1]
  generalize answeredE e (k : Int) m = A at *
  have hhA : A.he = true := a1.trans hh
  by_cases hw : A.wa ≠ 0#8
  · rw [if_pos hw] at fit ⊢
    refine ⟨0#8, ms4 11 m.li false false, rfl, rfl, tellOk4 hli 11 (by omega), fun j _ h1 => (by rw [has_zero] at h1; cases h1), ?_⟩
    refine ⟨fit.2.1, hlo, fun j hj => ?_, fun _ _ => hl.1, fun h1 => ?_, fun _ => hl.2.1, fun _ h1 => absurd f1 h1, fun hb => ?_⟩
    · rw [has_zero]
      simp only [Bool.false_eq_true, if_false, List.append_nil]
      exact hrel j hj
    · exact absurd (hhA.symm.trans h1) (by decide)
    · rw [a5]; exact hw2 (a4.symm.trans hb)
  · have hw0 : A.wa = 0#8 := by simpa using hw
    rw [if_neg hw] at fit ⊢
    obtain ⟨p, hp, hby2⟩ := isC_nat f2.1
    have hpc : p < co := by have := hlo.2.1; omega
    have hoth : ∀ j : Nat, j < co → j ≠ p → Rel cur A.l (ktOf A) (decide (A.ow = (j : Int))) (hasM A.sh j) false 0 (st j) (l j) (U j) ((fun j => if j = k then [] else N j) j) (D j) := by
      intro j hj hjp
      have h1 := hrel j hj
      rw [hw0, has_zero, bOf_ne (by omega)] at h1
      exact h1
    have hoB : ∀ j : Nat, hasM (bitM (p : Int)) (j : Int) = true → j < co := fun j hj => by rw [has_bitN _ (isC_cast hp), decide_eq_true_eq] at hj; omega
    have hrp := hrel p hpc
    unfold settledE at fit ⊢
    by_cases hb1 : A.bu = 1
    · rw [if_pos hb1] at fit ⊢
      rw [hby2] at fit ⊢
      rw [show bOf A p = 1 by unfold bOf; rw [if_pos hby2, hb1]; rfl] at hrp
      obtain ⟨_, _, _, r2⟩ := hrp.settleS
      refine ⟨_, _, rfl, rfl, tellOk5 hli 8 (by omega) _ _, fun j _ h1 => hoB j h1, ?_⟩
      exact LI.shares (e := overE A) h8 hhA rfl rfl rfl hpc fit.2.1 hl.1 hlo.2.2.1 hl.2.1 f1 (kt0 := ktOf A) hoth (fun a h1 h2 => r2 _ a h1 h2 _)
    · rw [if_neg hb1] at fit ⊢
      by_cases hb2 : A.bu = 2
      · rw [if_pos hb2] at fit ⊢
        rw [hby2] at fit ⊢
        rw [show bOf A p = 2 by unfold bOf; rw [if_pos hby2, hb2]; rfl] at hrp
        obtain ⟨_, _, r2⟩ := hrp.settleM
        refine ⟨_, _, rfl, rfl, tellOk5 hli 10 (by omega) _ _, fun j _ h1 => hoB j h1, ?_⟩
        refine LI.owns (e := overE A) h8 hhA rfl rfl rfl hpc fit.2.1 hl.1 hl.2.1 ?_ (kt0 := ktOf A) hoth (fun a h1 h2 => r2 _ a h1 h2 _ hl.1)
        intro j hj hjp
        have h1 := hw2 (a4.symm.trans hb2) j (by omega)
        rw [hw0, has_zero] at h1
        constructor
        · cases h2 : hasM (overE A).sh (j : Int)
          · rfl
          · exact absurd (h1 (.inl h2) (by rw [← a5]; omega)) (by decide)
        · show A.ow ≠ (j : Int)
          rw [f1]; omega
      · rw [if_neg hb2] at fit ⊢
        refine ⟨0#8, ms4 11 m.li false false, rfl, rfl, tellOk4 hli 11 (by omega), fun j _ h1 => (by rw [has_zero] at h1; cases h1), ?_⟩
        refine ⟨fit.2.1, hlo, fun j hj => ?_, fun _ _ => hl.1, fun h1 => ?_, fun _ => hl.2.1, fun _ h1 => absurd f1 h1, fun hb => absurd hb hb2⟩
        · rw [has_zero]
          simp only [Bool.false_eq_true, if_false, List.append_nil]
          exact hrel j hj
        · exact absurd (hhA.symm.trans h1) (by decide)
end
end Go.Proofs.YtadeoflkppiflaaGreatDoor
end
section
namespace Go.Proofs.YtadeoflkppiflaaGreatDoor
open Go.RowKit
set_option linter.unusedVariables false
set_option maxHeartbeats 1000000

/-! ### What a system has -/
structure Mst where
  ps : List Pt
  en : List En
  es : List Ent
  xs : List Int
def Mst.X (S : Mst) : List Int := over S.xs S.es
/-- Of one line: a core's request, its answers, what it is told. -/
def upL (x : Pt) (i : Nat) : List Ms := x.up.filter (fun m => m.li == (i : Int) && decide (m.kd ≤ 3))
def anL (x : Pt) (i : Nat) : List Ms := x.an.filter (fun m => m.li == (i : Int))
def dnL (x : Pt) (i : Nat) : List Ms := x.dn.filter (fun m => m.li == (i : Int) && m.kd != 14)
def vst (x : Pt) (i : Nat) : Nat := (vw x.s i).1.toNat
def vln (x : Pt) (i : Nat) : List Int := (vw x.s i).2
def ptN : Pt := ⟨([], 0), [], [], []⟩
def atP (ps : List Pt) (j : Nat) : Pt := ps.getD j ptN
theorem atP_of {ps : List Pt} {k : Nat} {x : Pt} (h : ps[k]? = some x) : atP ps k = x := by simp [atP, List.getD, h]
theorem atP_mem {ps : List Pt} {k : Nat} (h : k < ps.length) : ps[k]? = some (atP ps k) := by
  rw [atP, List.getD_eq_getElem?_getD, List.getElem?_eq_getElem h]; rfl
theorem atP_set {ps : List Pt} {k : Nat} (h : k < ps.length) (x : Pt) (j : Nat) : atP (ps.set k x) j = if j = k then x else atP ps j := by
  unfold atP
  rw [List.getD_eq_getElem?_getD, List.getD_eq_getElem?_getD, List.getElem?_set]
  by_cases hj : k = j
  · subst hj; simp [h]
  · rw [if_neg hj, if_neg (fun e => hj e.symm)]
def LinI (co : Nat) (ps : List Pt) (cur X : List Int) (i : Nat) (e : En) : Prop :=
  LI co cur X e (fun j => vst (atP ps j) i) (fun j => vln (atP ps j) i) (fun j => upL (atP ps j) i) (fun j => anL (atP ps j) i) (fun j => dnL (atP ps j) i)
theorem LI.with {co : Nat} {cur X : List Int} {e : En} {st st' : Nat → Nat} {l l' : Nat → List Int} {U N D U' N' D' : Nat → List Ms} (h : LI co cur X e st l U N D)
    (hr : ∀ j : Nat, j < co → Rel cur e.l (ktOf e) (decide (e.ow = (j : Int))) (hasM e.sh j) (hasM e.wa j) (bOf e j) (st' j) (l' j) (U' j) (N' j) (D' j)) : LI co cur X e st' l' U' N' D' :=
  ⟨h.good, h.lo, hr, h.data, h.mem0, h.mem1, h.wait1, h.wait2⟩
theorem LinI.same {co : Nat} {ps ps' : List Pt} {cur X : List Int} {i : Nat} {e : En} (h : LinI co ps cur X i e) (hs : ∀ j, j < co → vst (atP ps' j) i = vst (atP ps j) i ∧ vln (atP ps' j) i = vln (atP ps j) i ∧ upL (atP ps' j) i = upL (atP ps j) i ∧ anL (atP ps' j) i = anL (atP ps j) i ∧ dnL (atP ps' j) i = dnL (atP ps j) i) : LinI co ps' cur X i e := by
  refine h.with fun j hj => ?_
  obtain ⟨h1, h2, h3, h4, h5⟩ := hs j hj
  rw [h1, h2, h3, h4, h5]
  exact h.rel j hj

/-! ### An agent's call -/
theorem AOk.msg {li : Int} {st st' : Int} {l l' : List Int} {ms : List Ms} (h : AOk li st l st' l' ms) (hl : lineB li = true) : ∃ m, ms = [m] ∧ m.li = li ∧ m.kd ≤ 3 ∧ asksB m.kd = true ∧ mg m = true := by
  cases h with
  | askS => exact ⟨_, rfl, rfl, by simp [ms4], rfl, by simp [mg, ms4, kindB, hl]⟩
  | askM => exact ⟨_, rfl, rfl, by simp [ms4], rfl, by simp [mg, ms4, kindB, hl]⟩
  | up => exact ⟨_, rfl, rfl, by simp [ms4], rfl, by simp [mg, ms4, kindB, hl]⟩
  | outS => exact ⟨_, rfl, rfl, by simp [ms4], rfl, by simp [mg, ms4, kindB, hl]⟩
  | outE => exact ⟨_, rfl, rfl, by simp [ms4], rfl, by simp [mg, ms4, kindB, hl]⟩
  | outM l m hk hli hd hke hm => exact ⟨_, rfl, hli, by omega, by rw [hk]; rfl, by simp [mg, hk, hli, hd, hke, kindB, mayD, hl]⟩
section
variable {co : Nat} {ps : List Pt} {cur X : List Int} {i : Nat} {e : En}
theorem LinI.ag (h : LinI co ps cur X i e) {n k : Nat} {x : Pt} (hn : n ≤ 64) (hx : ps[k]? = some x) {s' : Sta} {ms : List Ms} (ha : Asks n x.s s' ms) : LinI co (ps.set k { x with s := s', up := x.up ++ ms }) cur X i e := by
  have hk := (List.getElem?_eq_some_iff.1 hx).1
  refine h.with fun j hj => ?_
  have hr := h.rel j hj
  simp only [atP_set hk]
  by_cases hjk : j = k
  · subst hjk
    simp only [atP_of hx] at hr
    simp only [if_true]
    rcases ha with ⟨rfl, hv⟩ | ⟨li, h0, hn', ha, ho⟩
    · have e1 : vst { x with s := s', up := x.up ++ [] } i = vst x i := by unfold vst; rw [hv]
      have e2 : vln { x with s := s', up := x.up ++ [] } i = vln x i := by unfold vln; rw [hv]
      have e3 : upL { x with s := s', up := x.up ++ [] } i = upL x i := by unfold upL; rw [List.append_nil]
      rw [e1, e2, e3]; exact hr
    · obtain ⟨m, hm, hml, hmk, _⟩ := ha.msg (by unfold lineB; simp; omega)
      have e3 : upL { x with s := s', up := x.up ++ ms } i = upL x i ++ ms.filter (fun m => m.li == (i : Int) && decide (m.kd ≤ 3)) := by unfold upL; rw [List.filter_append]
      rw [e3]
      by_cases hi : li = (i : Int)
      · subst hi
        have h2 := hr.ask ha.nat
        have e4 : ms.filter (fun m => m.li == (i : Int) && decide (m.kd ≤ 3)) = ms := by rw [hm]; simp [hml, hmk]
        rw [e4]
        exact h2
      · have e4 : ms.filter (fun m => m.li == (i : Int) && decide (m.kd ≤ 3)) = [] := by rw [hm]; simp [hml, hi]
        have hv := ho (i : Int) (fun e => hi e.symm)
        have e1 : vst { x with s := s', up := x.up ++ ms } i = vst x i := by unfold vst; rw [hv]
        have e2 : vln { x with s := s', up := x.up ++ ms } i = vln x i := by unfold vln; rw [hv]
        rw [e4, List.append_nil, e1, e2]; exact hr
  · simp only [hjk, if_false]; exact hr
theorem LI.ow_ne {co : Nat} {cur X : List Int} {e : En} {st : Nat → Nat} {l : Nat → List Int} {U N D : Nat → List Ms} (h : LI co cur X e st l U N D) {k : Nat} (hk : e.ow = (k : Int)) : e.he = true ∧ e.sh = 0#8 ∧ ∀ j : Nat, j ≠ k → e.ow ≠ (j : Int) := by
  have hh : e.he = true := by
    cases hh : e.he
    · have he : e = enE := by
        have := h.good
        unfold goodE at this
        rw [if_neg (by simp [hh])] at this
        simpa using this
      rw [he] at hk
      have : (-1 : Int) = (k : Int) := hk
      omega
    · rfl
  obtain ⟨g1, _⟩ := (good_here hh).1 h.good
  refine ⟨hh, ?_, fun j hj => by omega⟩
  rcases g1 with h1 | h1
  · omega
  · exact h1.2
/-- A word is written. -/
theorem LinI.write (h : LinI co ps cur X i e) {k : Nat} {x : Pt} (hkc : k < co) (hx : ps[k]? = some x) {s' : Sta} (cur' : List Int) (hs : (vw x.s i).1 = 2 ∨ (vw x.s i).1 = 3) (hv : vw s' i = (3, cur')) : LinI co (ps.set k { x with s := s' }) cur' X i e ∧ vln x i = cur := by
  have hk := (List.getElem?_eq_some_iff.1 hx).1
  have hrk := h.rel k hkc
  simp only [atP_of hx] at hrk
  have hst : vst x i = 2 ∨ vst x i = 3 := by unfold vst; omega
  obtain ⟨r1, r2, r3⟩ := hrk.write hst cur'
  have how : e.ow = (k : Int) := by simpa using r3
  obtain ⟨hh, hsh, hne⟩ := h.ow_ne how
  refine ⟨⟨h.good, h.lo, fun j hj => ?_, fun _ h1 => by omega, fun h1 => absurd (hh.symm.trans h1) (by decide), h.mem1, h.wait1, h.wait2⟩, r2⟩
  have hr := h.rel j hj
  simp only [atP_set hk]
  by_cases hjk : j = k
  · subst hjk
    simp only [if_true]
    have e1 : vst { x with s := s' } i = 3 := by unfold vst; rw [hv]; rfl
    have e2 : vln { x with s := s' } i = cur' := by unfold vln; rw [hv]
    rw [e1, e2]
    exact r1
  · simp only [hjk, if_false]
    rw [decide_eq_false (hne j hjk), hsh, has_zero] at hr ⊢
    obtain ⟨h1, h2, h3⟩ := hr.none cur' e.l (ktOf e)
    rw [h1, h2]; exact h3
theorem LinI.writeOff (h : LinI co ps cur X i e) {k : Nat} {x : Pt} (hx : ps[k]? = some x) {s' : Sta} (hv : vw s' i = vw x.s i) : LinI co (ps.set k { x with s := s' }) cur X i e := by
  have hk := (List.getElem?_eq_some_iff.1 hx).1
  refine h.same fun j hj => ?_
  simp only [atP_set hk]
  by_cases hjk : j = k
  · subst hjk
    simp only [if_true, atP_of hx]
    exact ⟨by unfold vst; rw [hv], by unfold vln; rw [hv], rfl, rfl, rfl⟩
  · simp only [hjk, if_false, and_self]

/-! ### A core hears -/
theorem hv_ex (m : Ms) (x : Slt) : ∃ st' l', HV m x st' l' := by
  refine ⟨if tb m.kd x.st = 10 then 0 else if tb m.kd x.st = 11 then x.st else tb m.kd x.st, if tb m.kd x.st = 11 then x.l else wordsL m x (tb m.kd x.st), fun h => by rw [if_pos h], fun h => ?_, fun h1 h2 => ?_⟩
  · rw [if_neg (by omega), if_pos h, if_pos h]; exact ⟨rfl, rfl⟩
  · rw [if_neg h1, if_neg h2, if_neg h2]; exact ⟨rfl, rfl⟩
theorem dnL_cons {x : Pt} {m : Ms} {rest : List Ms} (hd : x.dn = m :: rest) (i : Nat) (hm : m.li = (i : Int)) (h14 : m.kd ≠ 14) : dnL x i = m :: dnL { x with dn := rest } i := by
  unfold dnL
  rw [hd, List.filter_cons, if_pos (by simp [hm, h14])]
theorem dnL_skip {x : Pt} {m : Ms} {rest : List Ms} (hd : x.dn = m :: rest) (i : Nat) (hm : m.li ≠ (i : Int) ∨ m.kd = 14) : dnL x i = dnL { x with dn := rest } i := by
  unfold dnL
  rw [hd, List.filter_cons, if_neg (by rcases hm with h | h <;> simp [h])]
theorem LinI.fits (h : LinI co ps cur X i e) {S N n k : Nat} {x : Pt} (hkc : k < co) (hx : ps[k]? = some x) (aj : AJ S N n x.s) {m : Ms} {rest : List Ms} (hd : x.dn = m :: rest) (hm : m.li = (i : Int)) : tb m.kd (vw x.s m.li).1 ≠ 0 := by
  by_cases h14 : m.kd = 14
  · rw [h14]; show (11 : Int) ≠ 0; decide
  · have hr := h.rel k hkc
    simp only [atP_of hx, dnL_cons hd i hm h14] at hr
    obtain ⟨st', l', hv⟩ := hv_ex m (findVal x.s.1 m.li)
    have h0 := (aj.sane1 m.li).1
    have hr' : Rel cur e.l (ktOf e) (decide (e.ow = (k : Int))) (hasM e.sh k) (hasM e.wa k) (bOf e k) (findVal x.s.1 m.li).st.toNat (findVal x.s.1 m.li).l (upL x i) (anL x i) (m :: dnL { x with dn := rest } i) := by
      have e1 : vst x i = (findVal x.s.1 m.li).st.toNat := by unfold vst vw; rw [hm]
      have e2 : vln x i = (findVal x.s.1 m.li).l := by unfold vln vw; rw [hm]
      rw [← e1, ← e2]; exact hr
    exact (hr'.hear h0 (ktOf_or e) hv).1
theorem LinI.hear (h : LinI co ps cur X i e) {S N n k : Nat} {x : Pt} (hx : ps[k]? = some x) (aj : AJ S N n x.s) {m : Ms} {rest : List Ms} (hd : x.dn = m :: rest) (hg : (mg m && tellsB m.kd) = true) (hn : m.li < n) (ht : tb m.kd (vw x.s m.li).1 ≠ 0) :
    LinI co (ps.set k { x with s := (hearF S N x.s m).1, an := x.an ++ answersL m.kd (findVal x.s.1 m.li) (tb m.kd (vw x.s m.li).1), dn := rest }) cur X i e := by
  have hk := (List.getElem?_eq_some_iff.1 hx).1
  obtain ⟨_, _, ho, v10, v11, vno⟩ := aj.hearF hg hn ht
  refine h.with fun j hj => ?_
  have hr := h.rel j hj
  simp only [atP_set hk]
  by_cases hjk : j = k
  · subst hjk
    simp only [atP_of hx] at hr
    simp only [if_true]
    generalize hs' : (hearF S N x.s m).1 = s' at *
    have hal : m.kd ≠ 14 → ∀ a ∈ answersL m.kd (findVal x.s.1 m.li) (tb m.kd (vw x.s m.li).1), a.li = m.li := by
      intro h14 a ha
      have hl := (aj.line (tb_line ht h14)).2.2.1
      have htl : ∀ kd ke, (toldM kd (findVal x.s.1 m.li) ke).li = m.li := by
        intro kd ke; unfold toldM; split
        · exact hl
        · exact hl
      unfold answersL at ha
      split at ha
      · rw [List.mem_singleton] at ha; rw [ha, htl]
      · split at ha
        · rw [List.mem_singleton] at ha; rw [ha, htl]
        · cases ha
    have ean : ∀ av : List Ms, anL { x with s := s', an := x.an ++ av, dn := rest } i = anL x i ++ av.filter (fun m => m.li == (i : Int)) := by intro av; unfold anL; rw [List.filter_append]
    have eup : ∀ av : List Ms, upL { x with s := s', an := x.an ++ av, dn := rest } i = upL x i := fun _ => rfl
    have edn : ∀ av : List Ms, dnL { x with s := s', an := x.an ++ av, dn := rest } i = dnL { x with dn := rest } i := fun _ => rfl
    have evs : ∀ av : List Ms, vst { x with s := s', an := x.an ++ av, dn := rest } i = (vw s' i).1.toNat := fun _ => rfl
    have evl : ∀ av : List Ms, vln { x with s := s', an := x.an ++ av, dn := rest } i = (vw s' i).2 := fun _ => rfl
    rw [ean, eup, edn, evs, evl]
    by_cases h14 : m.kd = 14
    · have e1 : answersL m.kd (findVal x.s.1 m.li) (tb m.kd (vw x.s m.li).1) = [] := by rw [h14]; rfl
      have e2 : vw s' i = vw x.s i := by
        by_cases hi : m.li = (i : Int)
        · rw [← hi]; exact v11 (by rw [h14]; rfl)
        · exact ho _ (fun e => hi e.symm)
      rw [e1, e2, ← dnL_skip hd i (.inr h14)]
      simp only [List.filter_nil, List.append_nil]
      exact hr
    · by_cases hi : m.li = (i : Int)
      · rw [dnL_cons hd i hi h14] at hr
        have e1 : (answersL m.kd (findVal x.s.1 m.li) (tb m.kd (vw x.s m.li).1)).filter (fun m => m.li == (i : Int)) = answersL m.kd (findVal x.s.1 m.li) (tb m.kd (vw x.s m.li).1) := by
          rw [List.filter_eq_self]
          intro a ha
          rw [hal h14 a ha]; simpa using hi
        rw [e1]
        have e2 : vst x i = (findVal x.s.1 m.li).st.toNat := by unfold vst vw; rw [hi]
        have e3 : vln x i = (findVal x.s.1 m.li).l := by unfold vln vw; rw [hi]
        rw [e2, e3] at hr
        refine (hr.hear (aj.sane1 m.li).1 (ktOf_or e) (st' := (vw s' i).1) (l' := (vw s' i).2) ⟨fun h1 => ?_, fun h1 => ?_, fun h1 h2 => ?_⟩).2
        · rw [← hi]; exact v10 h1
        · rw [← hi, v11 h1]; exact ⟨rfl, rfl⟩
        · rw [← hi, vno h1 h2]; exact ⟨rfl, rfl⟩
      · have e1 : (answersL m.kd (findVal x.s.1 m.li) (tb m.kd (vw x.s m.li).1)).filter (fun m => m.li == (i : Int)) = [] := by
          rw [List.filter_eq_nil_iff]
          intro a ha
          rw [hal h14 a ha]; simpa using hi
        rw [e1, ho _ (fun e => hi e.symm), ← dnL_skip hd i (.inl hi), List.append_nil]
        exact hr
  · simp only [hjk, if_false]; exact hr

/-! ### The directory -/
theorem sendP_at (a : Ms) : ∀ (cs : List Int) (ps : List Pt), cs.Nodup → (∀ c ∈ cs, 0 ≤ c ∧ c < ps.length) → (sendP ps (cs.map fun c => (⟨c, a⟩ : Sd))).length = ps.length ∧ ∀ j : Nat, j < ps.length → atP (sendP ps (cs.map fun c => (⟨c, a⟩ : Sd))) j = if (j : Int) ∈ cs then { atP ps j with dn := (atP ps j).dn ++ [a] } else atP ps j
  | [], ps, _, _ => ⟨rfl, fun j _ => by simp [sendP]⟩
  | c :: cs, ps, hn, hc => by
    obtain ⟨hc1, hc2⟩ := hc c (by simp)
    obtain ⟨p, rfl⟩ : ∃ p : Nat, c = (p : Int) := ⟨c.toNat, by omega⟩
    have hp : p < ps.length := by omega
    have e1 : sendP ps (((p : Int) :: cs).map fun c => (⟨c, a⟩ : Sd)) = sendP (ps.set p { atP ps p with dn := (atP ps p).dn ++ [a] }) (cs.map fun c => (⟨c, a⟩ : Sd)) := by
      unfold sendP
      rw [List.map_cons, List.foldl_cons]
      congr 1
      unfold sendTo
      show (match ps[(p : Int).toNat]? with | some x => _ | none => _) = _
      rw [Int.toNat_natCast, atP_mem hp]
    rw [List.nodup_cons] at hn
    obtain ⟨h1, h2⟩ := sendP_at a cs (ps.set p { atP ps p with dn := (atP ps p).dn ++ [a] }) hn.2 (fun c hc' => by rw [List.length_set]; exact hc c (by simp [hc']))
    rw [e1]
    refine ⟨by rw [h1, List.length_set], fun j hj => ?_⟩
    rw [h2 j (by rw [List.length_set]; exact hj), atP_set hp]
    by_cases hjp : j = p
    · subst hjp
      rw [if_neg hn.1, if_pos rfl, if_pos (by simp)]
    · simp only [hjp, if_false]
      by_cases hm : (j : Int) ∈ cs
      · rw [if_pos hm, if_pos (by simp [hm])]
      · rw [if_neg hm, if_neg (by simp [hm]; omega)]
theorem coresL_nodup (o : Mk) : (coresL o).Nodup := by
  unfold coresL coresTo
  exact List.Nodup.sublist List.filter_sublist (by decide)
theorem has_isC {o : Mk} {c : Int} (h : hasM o c = true) : isC c = true := by
  cases hc : isC c
  · rw [has_out hc] at h; cases h
  · rfl
theorem sendP_tell (o : Mk) (a : Ms) (ps : List Pt) (h : ∀ j : Nat, j < 8 → hasM o j = true → j < ps.length) : (sendP ps (tellL o a)).length = ps.length ∧ ∀ j : Nat, j < ps.length → atP (sendP ps (tellL o a)) j = if hasM o j = true then { atP ps j with dn := (atP ps j).dn ++ [a] } else atP ps j := by
  have := sendP_at a (coresL o) ps (coresL_nodup o) (fun c hc => by
    have h1 := (mem_cores o c).1 hc
    obtain ⟨j, hj, rfl⟩ := isC_nat (has_isC h1)
    have := h j hj h1
    omega)
  refine ⟨this.1, fun j hj => ?_⟩
  rw [show tellL o a = (coresL o).map fun c => (⟨c, a⟩ : Sd) from rfl, this.2 j hj]
  by_cases hm : hasM o (j : Int) = true
  · rw [if_pos hm, if_pos ((mem_cores o j).2 hm)]
  · rw [if_neg hm, if_neg (fun h => hm ((mem_cores o j).1 h))]
/-- What is sent of another line, or a Done, is nothing to this one. -/
theorem LinI.sent (h : LinI co ps cur X i e) (hl : ps.length = co) {o : Mk} {a : Ms} (ho : ∀ j : Nat, j < 8 → hasM o j = true → j < co) (ha : a.li ≠ (i : Int) ∨ a.kd = 14) : LinI co (sendP ps (tellL o a)) cur X i e := by
  obtain ⟨_, h2⟩ := sendP_tell o a ps (by rw [hl]; exact ho)
  refine h.same fun j hj => ?_
  rw [h2 j (by omega)]
  split
  · refine ⟨rfl, rfl, rfl, rfl, ?_⟩
    unfold dnL
    rw [List.filter_append]
    have : [a].filter (fun m => m.li == (i : Int) && m.kd != 14) = [] := by rcases ha with ha | ha <;> simp [ha]
    rw [this, List.append_nil]
  · exact ⟨rfl, rfl, rfl, rfl, rfl⟩
/-- What is sent of this line. -/
theorem LinI.sends {st : Nat → Nat} {l : Nat → List Int} {U N : Nat → List Ms} {D : Nat → List Ms} {e' : En} {o : Mk} {a : Ms} (h : LI co cur X e' st l U N (fun j => D j ++ if hasM o j = true then [a] else [])) (hl : ps.length = co) (ho : ∀ j : Nat, j < 8 → hasM o j = true → j < co) (ha : a.li = (i : Int)) (h14 : a.kd ≠ 14)
    (hs : ∀ j, j < co → vst (atP ps j) i = st j ∧ vln (atP ps j) i = l j ∧ upL (atP ps j) i = U j ∧ anL (atP ps j) i = N j ∧ dnL (atP ps j) i = D j) : LinI co (sendP ps (tellL o a)) cur X i e' := by
  obtain ⟨_, h2⟩ := sendP_tell o a ps (by rw [hl]; exact ho)
  refine h.with fun j hj => ?_
  have hr := h.rel j hj
  obtain ⟨h3, h4, h5, h6, h7⟩ := hs j hj
  simp only [h2 j (show j < ps.length by omega)]
  rw [← h3, ← h4, ← h5, ← h6, ← h7] at hr
  by_cases hm : hasM o (j : Int) = true
  · rw [if_pos hm]
    have e1 : dnL { atP ps j with dn := (atP ps j).dn ++ [a] } i = dnL (atP ps j) i ++ if hasM o (j : Int) = true then [a] else [] := by
      unfold dnL
      rw [List.filter_append, if_pos hm]
      congr 1
      simp [ha, h14]
    rw [e1]; exact hr
  · rw [if_neg hm]
    rw [if_neg hm, List.append_nil] at hr
    exact hr
theorem upL_cons {x : Pt} {m : Ms} {rest : List Ms} (hd : x.up = m :: rest) (i : Nat) (hm : m.li = (i : Int)) (h3 : m.kd ≤ 3) : upL x i = m :: upL { x with up := rest } i := by
  unfold upL
  rw [hd, List.filter_cons, if_pos (by simp [hm, h3])]
theorem upL_skip {x : Pt} {m : Ms} {rest : List Ms} (hd : x.up = m :: rest) (i : Nat) (hm : m.li ≠ (i : Int) ∨ ¬ m.kd ≤ 3) : upL x i = upL { x with up := rest } i := by
  unfold upL
  rw [hd, List.filter_cons, if_neg (by rcases hm with h | h <;> simp [h])]
theorem anL_cons {x : Pt} {m : Ms} {rest : List Ms} (hd : x.an = m :: rest) (i : Nat) (hm : m.li = (i : Int)) : anL x i = m :: anL { x with an := rest } i := by
  unfold anL
  rw [hd, List.filter_cons, if_pos (by simp [hm])]
theorem anL_skip {x : Pt} {m : Ms} {rest : List Ms} (hd : x.an = m :: rest) (i : Nat) (hm : m.li ≠ (i : Int)) : anL x i = anL { x with an := rest } i := by
  unfold anL
  rw [hd, List.filter_cons, if_neg (by simp [hm])]
/-- A request: its own line, and any other one. -/
theorem LinI.up (h : LinI co ps cur X i e) (h8 : co ≤ 8) (hl : ps.length = co) (hX : X.length = 8) (hb : e.bu = 0) {k : Nat} {x : Pt} (hx : ps[k]? = some x) {m : Ms} {rest : List Ms} (hu : x.up = m :: rest) (hm : asksB m.kd = true) (hg : mg m = true) (hi : m.li = (i : Int)) :
    ∃ (o : Mk) (a : Ms) (e' : En), askE (hereP e X hX) k m = ((e', tellL o a), 0) ∧ TellOk m.li a ∧ (∀ j : Nat, j < 8 → hasM o j = true → j < co) ∧ LinI co (sendP (ps.set k { x with up := rest }) (tellL o a)) cur X i e' := by
  have hk := (List.getElem?_eq_some_iff.1 hx).1
  obtain ⟨h1, hh, hbb⟩ := LI.here h hX
  have hb' : (hereP e X hX).bu = 0 := hbb.trans hb
  have hli : lineB m.li = true := by simp only [mg, Bool.and_eq_true] at hg; exact hg.1.1.1.2
  obtain ⟨o, a, d1, d2, d3, d4⟩ := LI.deed h1 h8 hh hb' (k := k) (by omega) hm hli (V := upL { x with up := rest } i) (fun h3 => by simp only [atP_of hx]; exact upL_cons hu i hi h3)
  have harg : askArg (hereP e X hX) k m = true := by simp [askArg, h1.good, isC_cast (show k < 8 by omega), hg, hm]
  refine ⟨o, a, (deedE (hereP e X hX) k m).1, ?_, d2, d3, ?_⟩
  · unfold askE
    rw [if_pos harg, if_neg (by rw [hb']; decide), if_neg (by rw [hh]; decide), ← d1]
  · refine LinI.sends d4 (by rw [List.length_set]; exact hl) d3 (by rw [d2.2.2.1, hi]) d2.2.2.2 fun j hj => ?_
    simp only [atP_set hk]
    by_cases hjk : j = k
    · subst hjk
      simp only [if_true, atP_of hx, and_true]
      refine ⟨rfl, rfl, ?_, rfl, rfl⟩
      by_cases h3 : m.kd ≤ 3
      · simp only [h3, if_true]
      · simp only [h3, if_false]; exact (upL_skip hu i (.inr h3)).symm
    · simp only [hjk, if_false, and_false, and_self]
theorem LinI.upOff (h : LinI co ps cur X i e) (hl : ps.length = co) {k : Nat} {x : Pt} (hx : ps[k]? = some x) {m : Ms} {rest : List Ms} (hu : x.up = m :: rest) (hi : m.li ≠ (i : Int)) {o : Mk} {a : Ms} (ho : ∀ j : Nat, j < 8 → hasM o j = true → j < co) (ha : TellOk m.li a) : LinI co (sendP (ps.set k { x with up := rest }) (tellL o a)) cur X i e := by
  have hk := (List.getElem?_eq_some_iff.1 hx).1
  refine LinI.sent (h.same fun j hj => ?_) (by rw [List.length_set]; exact hl) ho (.inl (by rw [ha.2.2.1]; exact hi))
  simp only [atP_set hk]
  by_cases hjk : j = k
  · subst hjk
    simp only [if_true, atP_of hx]
    exact ⟨rfl, rfl, (upL_skip hu i (.inl hi)).symm, rfl, rfl⟩
  · simp only [hjk, if_false, and_self]
theorem LinI.answer (h : LinI co ps cur X i e) (h8 : co ≤ 8) (hl : ps.length = co) {k : Nat} {x : Pt} (hx : ps[k]? = some x) {m : Ms} {rest : List Ms} (hu : x.an = m :: rest) (hm : answersB m.kd = true) (hg : mg m = true) (hi : m.li = (i : Int)) :
    ∃ (o : Mk) (a : Ms) (e' : En), ansE e k m = ((e', tellL o a), 0) ∧ TellOk m.li a ∧ (∀ j : Nat, j < 8 → hasM o j = true → j < co) ∧ LinI co (sendP (ps.set k { x with an := rest }) (tellL o a)) cur X i e' := by
  have hk := (List.getElem?_eq_some_iff.1 hx).1
  obtain ⟨o, a, d0, d1, d2, d3, d4⟩ := LI.answered h h8 (k := k) (by omega) hm hg (V := anL { x with an := rest } i) (by simp only [atP_of hx]; exact anL_cons hu i hi)
  refine ⟨o, a, (ansE e k m).1.1, ?_, d2, d3, ?_⟩
  · rw [← d1, ← d0]
  · refine LinI.sends d4 (by rw [List.length_set]; exact hl) d3 (by rw [d2.2.2.1, hi]) d2.2.2.2 fun j hj => ?_
    simp only [atP_set hk]
    by_cases hjk : j = k
    · subst hjk
      simp only [if_true, atP_of hx]
      exact ⟨rfl, rfl, rfl, trivial, rfl⟩
    · simp only [hjk, if_false, and_self]
theorem LinI.answerOff (h : LinI co ps cur X i e) (hl : ps.length = co) {k : Nat} {x : Pt} (hx : ps[k]? = some x) {m : Ms} {rest : List Ms} (hu : x.an = m :: rest) (hi : m.li ≠ (i : Int)) {o : Mk} {a : Ms} (ho : ∀ j : Nat, j < 8 → hasM o j = true → j < co) (ha : TellOk m.li a) : LinI co (sendP (ps.set k { x with an := rest }) (tellL o a)) cur X i e := by
  have hk := (List.getElem?_eq_some_iff.1 hx).1
  refine LinI.sent (h.same fun j hj => ?_) (by rw [List.length_set]; exact hl) ho (.inl (by rw [ha.2.2.1]; exact hi))
  simp only [atP_set hk]
  by_cases hjk : j = k
  · subst hjk
    simp only [if_true, atP_of hx]
    exact ⟨rfl, rfl, rfl, (anL_skip hu i hi).symm, rfl⟩
  · simp only [hjk, if_false, and_self]
/-- A flush is over: the memory has the words. -/
theorem LinI.push (h : LinI co ps cur X i e) (hd : readyE e = true) {X' : List Int} (hX : X' = e.l) : LinI co ps cur X' i ((overE e).setDi false) := by
  have fit := push_fit hd
  have hb : e.bu = 4 ∨ e.bu = 5 := by simp only [readyE, Bool.and_eq_true, Bool.or_eq_true, beq_iff_eq] at hd; exact hd.1.2
  have hw : e.wa = 0#8 := by simp only [readyE, Bool.and_eq_true, beq_iff_eq] at hd; exact hd.2
  have hh : e.he = true := fit.1
  have hg : goodE ((overE e).setDi false) = true := fit.2.1
  refine ⟨hg, ⟨h.lo.1, ?_, h.lo.2.2.1, fun j _ h1 => ?_⟩, fun j hj => ?_, h.data, fun h1 => absurd (hh.symm.trans h1) (by decide), fun _ _ => hX, fun h1 => absurd (show (0 : Int) = 1 from h1) (by decide), fun h1 => absurd (show (0 : Int) = 2 from h1) (by decide)⟩
  · obtain ⟨p, hp, he⟩ := isC_nat (by rcases ((good_here hh).1 h.good).2 with ⟨h1, _⟩ | ⟨_, h1, _⟩ | ⟨_, h1⟩; omega; exact h1.1; exact h1.1)
    have := h.lo.2.1
    show (0 : Int) < co
    omega
  · have h2 : hasM 0#8 (j : Int) = true := h1
    rw [has_zero] at h2; cases h2
  · have hr := h.rel j hj
    rw [hw, has_zero, bOf_fl j hb] at hr
    show Rel cur e.l (ktOf ((overE e).setDi false)) (decide (e.ow = (j : Int))) (hasM e.sh j) (hasM 0#8 j) (bOf ((overE e).setDi false) j) _ _ _ _ _
    rw [has_zero, bOf_0 (show ((overE e).setDi false).bu = 0 from rfl)]
    exact (hr.anyKt _).1
/-- A line that nobody has is put out. -/
theorem LinI.drop (h : LinI co ps cur X i e) (hco : 1 ≤ co) (hd : keptE e = false) {X' : List Int} (hX : X' = e.l) : LinI co ps cur X' i enE := by
  unfold keptE at hd
  simp only [Bool.or_eq_false_iff, Bool.not_eq_false', decide_eq_false_iff_not, bne_eq_false_iff_eq] at hd
  obtain ⟨⟨⟨hh, ho⟩, hs⟩, hb⟩ := hd
  obtain ⟨g1, g2, g3, hr⟩ := LI.free h hh hb
  have hone : e.ow = -1 := by
    rcases g1 with h1 | ⟨h1, _⟩
    · exact h1
    · simp [isC] at h1; omega
  have hc := h.data hh hone
  refine ⟨rfl, ⟨by show (-1 : Int) < co; omega, by show (0 : Int) < co; omega, fun j _ h1 => ?_, fun j _ h1 => ?_⟩, fun j hj => ?_, fun h1 => absurd (show false = true from h1) (by decide), fun _ => hX.trans hc, fun h1 => absurd (show false = true from h1) (by decide), fun h1 => absurd (show (0 : Int) = 1 from h1) (by decide), fun h1 => absurd (show (0 : Int) = 2 from h1) (by decide)⟩
  · have h2 : hasM 0#8 (j : Int) = true := h1
    rw [has_zero] at h2; cases h2
  · have h2 : hasM 0#8 (j : Int) = true := h1
    rw [has_zero] at h2; cases h2
  · have h1 := hr j hj
    rw [hone, decide_eq_false (by omega), hs, has_zero] at h1
    obtain ⟨_, h3, h4⟩ := h1.none cur enE.l 13
    show Rel cur enE.l 13 (decide ((-1 : Int) = (j : Int))) (hasM 0#8 j) (hasM 0#8 j) (bOf enE j) _ _ _ _ _
    rw [decide_eq_false (by omega), has_zero, bOf_0 (show enE.bu = 0 from rfl), h3]
    exact h4
/-- The memory's words of the line are as they were. -/
theorem LinI.mem (h : LinI co ps cur X i e) {X' : List Int} (hX : X' = X) : LinI co ps cur X' i e := by subst hX; exact h
end
end Go.Proofs.YtadeoflkppiflaaGreatDoor
end
