/- Good entries stay good, what is told fits: no walk. No condition. -/
import Derived.Test.YtkaabiiedfkaaaaDoorDirm
namespace Go.Proofs.YtkaabiiedfkaaaaDoor
open Go.RowKit
set_option linter.unusedVariables false
set_option maxHeartbeats 1000000

/-! ### Good entries in words -/
def Gp (e : En) : Prop := e.ow = -1 ∨ (isC e.ow = true ∧ e.sh = 0#8)
def Wp (e : En) : Prop := isC e.by_ = true ∧ ∀ k : Nat, k < 8 → hasM e.wa k = true → hasM e.sh k = true ∨ e.ow = (k : Int)
def Bp (e : En) : Prop := (e.bu = 0 ∧ e.by_ = 0 ∧ e.wa = 0#8) ∨ ((e.bu = 1 ∨ e.bu = 2) ∧ Wp e ∧ e.wa ≠ 0#8) ∨ ((e.bu = 4 ∨ e.bu = 5) ∧ Wp e)
theorem isC_cast {k : Nat} (h : k < 8) : isC (k : Int) = true := by simp [isC]; omega
theorem has_holders (e : En) {k : Nat} (hk : k < 8) : hasM (holders e) k = true ↔ hasM e.sh k = true ∨ e.ow = (k : Int) := by
  unfold holders
  rw [has_or, Bool.or_eq_true, has_bit, Bool.and_eq_true, decide_eq_true_eq]
  constructor
  · rintro (h | ⟨_, h⟩)
    · exact .inl h
    · exact .inr h
  · rintro (h | h)
    · exact .inl h
    · exact .inr ⟨by rw [h]; exact isC_cast hk, h⟩
theorem sub_iff (a b : Mk) : ((a &&& ~~~b) == 0#8) = true ↔ ∀ k : Nat, k < 8 → hasM a k = true → hasM b k = true := by
  rw [zero_iff]
  constructor
  · intro h k hk ha
    have := h k hk
    rw [has_not, ha, Bool.true_and] at this
    simpa using this
  · intro h k hk
    rw [has_not]
    cases ha : hasM a k
    · rfl
    · rw [h k hk ha]; rfl
theorem goodWa_iff (e : En) : goodWa e = true ↔ Wp e := by
  unfold goodWa Wp
  rw [Bool.and_eq_true, sub_iff]
  constructor
  · rintro ⟨h1, h2⟩; exact ⟨h1, fun k hk h => (has_holders e hk).1 (h2 k hk h)⟩
  · rintro ⟨h1, h2⟩; exact ⟨h1, fun k hk h => (has_holders e hk).2 (h2 k hk h)⟩
theorem good_here {e : En} (h : e.he = true) : goodE e = true ↔ Gp e ∧ Bp e := by
  have h1 : goodOw e = true ↔ Gp e := by simp [goodOw, Gp]
  have h2 : goodBu e = true ↔ Bp e := by
    unfold goodBu Bp
    split
    · rename_i h0
      simp only [Bool.and_eq_true, beq_iff_eq]
      constructor
      · rintro ⟨a, b⟩; exact .inl ⟨h0, a, b⟩
      · rintro (⟨_, a, b⟩ | ⟨a, _⟩ | ⟨a, _⟩)
        · exact ⟨a, b⟩
        · omega
        · omega
    · split
      · rename_i h0 h3
        rw [Bool.and_eq_true, goodWa_iff, bne_iff_ne]
        constructor
        · rintro ⟨a, b⟩; exact .inr (.inl ⟨h3, a, b⟩)
        · rintro (⟨a, _⟩ | ⟨_, a, b⟩ | ⟨a, _⟩)
          · omega
          · exact ⟨a, b⟩
          · omega
      · split
        · rename_i h0 h3 h4
          rw [goodWa_iff]
          constructor
          · exact fun a => .inr (.inr ⟨h4, a⟩)
          · rintro (⟨a, _⟩ | ⟨a, _⟩ | ⟨_, a⟩)
            · omega
            · omega
            · exact a
        · rename_i h0 h3 h4
          constructor
          · intro h; cases h
          · rintro (⟨a, _⟩ | ⟨a, _⟩ | ⟨a, _⟩) <;> omega
  unfold goodE
  rw [if_pos h, Bool.and_eq_true, h1, h2]
theorem bits_zero (c : Int) (h : isC c = true) : bitM c ≠ 0#8 := by
  have := bit_ne0 c
  rw [h] at this
  simpa using this
theorem has_self {c : Int} (h : isC c = true) : hasM (bitM c) c = true := by rw [has_bit, h]; simp
/-! ### What is told fits -/
def okS (a : En) (s : Sd) : Prop := ((s.m.kd = 9 ∨ s.m.kd = 10) → a.ow = s.to ∧ s.m.l = a.l) ∧ (s.m.kd = 8 → hasM a.sh s.to = true ∧ s.m.l = a.l) ∧ ((s.m.kd = 12 ∨ s.m.kd = 13) → hasM a.wa s.to = true)
def Fit7 (r : En × List Sd) : Prop := r.1.he = true ∧ goodE r.1 = true ∧ ∀ s ∈ r.2, okS r.1 s
theorem tell_mem {s : Mk} {m : Ms} {x : Sd} (h : x ∈ tellL s m) : hasM s x.to = true ∧ x.m = m := by
  unfold tellL at h
  obtain ⟨c, hc, rfl⟩ := List.mem_map.1 h
  exact ⟨(mem_cores s c).1 hc, rfl⟩
theorem fit_wait {e : En} (hh : e.he = true) (hg : Gp e) (c : Int) (hc : isC c = true) (m : Ms) (o : Mk) (kd : Int) (hkd : kd = 12 ∨ kd = 13) (ho : ∀ k : Nat, k < 8 → hasM o k = true → hasM e.sh k = true ∨ e.ow = (k : Int)) (hk : m.kd = 4 ∨ m.kd = 5 ∨ ((m.kd = 1 ∨ m.kd = 2) ∧ o ≠ 0#8)) : Fit7 (waitE e c m o kd) := by
  have hg' : Gp (waitE e c m o kd).1 := hg
  have hw : Wp (waitE e c m o kd).1 := ⟨hc, ho⟩
  refine ⟨hh, (good_here (e := (waitE e c m o kd).1) hh).2 ⟨hg', ?_⟩, ?_⟩
  · rcases hk with h | h | ⟨h, h2⟩
    · exact .inr (.inr ⟨.inl h, hw⟩)
    · exact .inr (.inr ⟨.inr h, hw⟩)
    · exact .inr (.inl ⟨h, hw, h2⟩)
  · intro s hs
    obtain ⟨h1, h2⟩ := tell_mem (show s ∈ tellL o (ms4 kd m.li false false) from hs)
    have h3 : s.m.kd = kd := by rw [h2]; rfl
    refine ⟨fun h => ?_, fun h => ?_, fun _ => h1⟩ <;> omega
theorem fit_owned {e : En} (hh : e.he = true) (hb : e.bu = 0 ∧ e.by_ = 0 ∧ e.wa = 0#8) (c : Int) (hc : isC c = true) (kd li : Int) (hkd : kd = 9 ∨ kd = 10) : Fit7 (ownedE e c kd li) := by
  refine ⟨hh, (good_here (e := (ownedE e c kd li).1) hh).2 ⟨.inr ⟨hc, rfl⟩, .inl hb⟩, ?_⟩
  intro s hs
  rw [show (ownedE e c kd li).2 = tellL (bitM c) (ms5 kd li e.l e.h) from rfl, tell_one hc] at hs
  obtain rfl : s = ⟨c, ms5 kd li e.l e.h⟩ := by simpa using hs
  refine ⟨fun _ => ⟨rfl, rfl⟩, fun h => ?_, fun h => ?_⟩
  · have : kd = 8 := h
    omega
  · have : kd = 12 ∨ kd = 13 := h
    omega
theorem fit_shared {e : En} (hh : e.he = true) (hg : e.ow = -1) (hb : e.bu = 0 ∧ e.by_ = 0 ∧ e.wa = 0#8) (c : Int) (hc : isC c = true) (li : Int) : Fit7 (sharedE e c li) := by
  refine ⟨hh, (good_here (e := (sharedE e c li).1) hh).2 ⟨.inl hg, .inl hb⟩, ?_⟩
  intro s hs
  rw [show (sharedE e c li).2 = tellL (bitM c) (ms5 8 li e.l e.h) from rfl, tell_one hc] at hs
  obtain rfl : s = ⟨c, ms5 8 li e.l e.h⟩ := by simpa using hs
  refine ⟨fun h => ?_, fun _ => ⟨?_, rfl⟩, fun h => ?_⟩
  · have : (8 : Int) = 9 ∨ (8 : Int) = 10 := h
    omega
  · show hasM (e.sh ||| bitM c) c = true
    rw [has_or, has_self hc, Bool.or_true]
  · have : (8 : Int) = 12 ∨ (8 : Int) = 13 := h
    omega
theorem hold_bit {e : En} : ∀ k : Nat, k < 8 → hasM (bitM e.ow) k = true → hasM e.sh k = true ∨ e.ow = (k : Int) := by
  intro k _ h
  rw [has_bit, Bool.and_eq_true, decide_eq_true_eq] at h
  exact .inr h.2
theorem busy0 {e : En} (hh : e.he = true) (g : goodE e = true) (hb : e.bu = 0) : Gp e ∧ e.bu = 0 ∧ e.by_ = 0 ∧ e.wa = 0#8 := by
  obtain ⟨h1, h2⟩ := (good_here hh).1 g
  refine ⟨h1, ?_⟩
  rcases h2 with h | ⟨h, _⟩ | ⟨h, _⟩
  · exact h
  · omega
  · omega
theorem ask_fit {e : En} {c : Int} {m : Ms} (g : goodE e = true) (hh : e.he = true) (hb : e.bu = 0) (hc : isC c = true) (hm : asksB m.kd = true) : Fit7 (deedE e c m) := by
  obtain ⟨hg, hb'⟩ := busy0 hh g hb
  have hk : m.kd = 1 ∨ m.kd = 2 ∨ m.kd = 3 ∨ m.kd = 4 ∨ m.kd = 5 := by simp [asksB] at hm; omega
  rcases hk with k | k | k | k | k
  · rw [show deedE e c m = getSE e c m by simp [deedE, k]]
    unfold getSE
    split
    · rename_i h
      refine fit_wait hh hg c hc m _ 13 (.inr rfl) hold_bit (.inr (.inr ⟨.inl k, ?_⟩))
      rcases hg with h1 | h1
      · exact absurd h1 h.1
      · exact bits_zero _ h1.1
    · rename_i h
      split
      · exact fit_owned hh hb' c hc 9 m.li (.inl rfl)
      · rename_i hs
        refine fit_shared hh ?_ hb' c hc m.li
        rcases hg with h1 | h1
        · exact h1
        · exact absurd h1.2 hs
  · rw [show deedE e c m = getME e c m by simp [deedE, k]]
    unfold getME
    split
    · exact fit_owned hh hb' c hc 10 m.li (.inr rfl)
    · rename_i h
      refine fit_wait hh hg c hc m _ 12 (.inl rfl) ?_ (.inr (.inr ⟨.inr k, h⟩))
      intro j hj hj2
      rw [has_not, Bool.and_eq_true] at hj2
      exact (has_holders e hj).1 hj2.1
  · rw [show deedE e c m = putE e c m by simp [deedE, k]]
    have hw : ∀ x : En, x.he = true → Gp x → (x.bu = 0 ∧ x.by_ = 0 ∧ x.wa = 0#8) → (withoutE x c).he = true ∧ goodE (withoutE x c) = true := by
      intro x h1 h2 h3
      have h4 : (withoutE x c).he = true := by unfold withoutE; split <;> exact h1
      refine ⟨h4, (good_here h4).2 ⟨?_, ?_⟩⟩
      · unfold withoutE Gp
        split
        · exact .inl rfl
        · rcases h2 with h | ⟨h, h'⟩
          · exact .inl h
          · right
            refine ⟨h, ?_⟩
            show x.sh &&& ~~~(bitM c) = 0#8
            rw [h']
            apply mk_ext; intro k _; rw [has_not, has_zero]; rfl
      · left
        unfold withoutE
        split <;> exact h3
    unfold putE
    have h5 : (withoutE (if e.ow = c then writtenE e m else e) c).he = true ∧ goodE (withoutE (if e.ow = c then writtenE e m else e) c) = true := by
      split
      · refine hw _ ?_ ?_ ?_
        · unfold writtenE; split <;> exact hh
        · unfold writtenE; split <;> exact hg
        · unfold writtenE; split <;> exact hb'
      · exact hw e hh hg hb'
    refine ⟨h5.1, h5.2, ?_⟩
    intro s hs
    obtain ⟨_, h2⟩ := tell_mem (show s ∈ tellL (bitM c) (ms4 11 m.li false false) from hs)
    have h3 : s.m.kd = 11 := by rw [h2]; rfl
    refine ⟨fun h => ?_, fun h => ?_, fun h => ?_⟩ <;> omega
  · rw [show deedE e c m = cleanE e c m by simp [deedE, k]]
    exact fit_wait hh hg c hc m _ 13 (.inr rfl) hold_bit (.inl k)
  · rw [show deedE e c m = wipeE e c m by simp [deedE, k]]
    exact fit_wait hh hg c hc m _ 12 (.inl rfl) (fun j hj h => (has_holders e hj).1 h) (.inr (.inl k))
/-! ### An answer -/
theorem written_parts (e : En) (m : Ms) : (writtenE e m).he = e.he ∧ (writtenE e m).ow = e.ow ∧ (writtenE e m).sh = e.sh ∧ (writtenE e m).bu = e.bu ∧ (writtenE e m).by_ = e.by_ ∧ (writtenE e m).wa = e.wa := by
  unfold writtenE; split <;> exact ⟨rfl, rfl, rfl, rfl, rfl, rfl⟩
theorem answered_parts (e : En) (c : Int) (m : Ms) : (answeredE e c m).he = e.he ∧ (answeredE e c m).ow = (if e.ow = c then -1 else e.ow) ∧ (answeredE e c m).sh = (if m.ke = true then (e.sh &&& ~~~(bitM c)) ||| bitM c else e.sh &&& ~~~(bitM c)) ∧ (answeredE e c m).bu = e.bu ∧ (answeredE e c m).by_ = e.by_ ∧ (answeredE e c m).wa = e.wa &&& ~~~(bitM c) := by
  obtain ⟨h1, h2, h3, h4, h5, h6⟩ := written_parts e m
  have hw : ∀ x : En, (withoutE x c).he = x.he ∧ (withoutE x c).ow = (if x.ow = c then -1 else x.ow) ∧ (withoutE x c).sh = x.sh &&& ~~~(bitM c) ∧ (withoutE x c).bu = x.bu ∧ (withoutE x c).by_ = x.by_ ∧ (withoutE x c).wa = x.wa := by
    intro x; unfold withoutE; split <;> exact ⟨rfl, by simp [*, En.setOw, En.setSh], rfl, rfl, rfl, rfl⟩
  obtain ⟨a1, a2, a3, a4, a5, a6⟩ := hw (writtenE e m)
  unfold answeredE
  dsimp only
  split
  · refine ⟨a1.trans h1, (show (withoutE (writtenE e m) c).ow = _ from a2).trans (by rw [h2]), ?_, a4.trans h4, a5.trans h5, ?_⟩
    · show (withoutE (writtenE e m) c).sh ||| bitM c = _
      rw [a3, h3]
    · show (withoutE (writtenE e m) c).wa &&& ~~~(bitM c) = _
      rw [a6, h6]
  · refine ⟨a1.trans h1, (show (withoutE (writtenE e m) c).ow = _ from a2).trans (by rw [h2]), ?_, a4.trans h4, a5.trans h5, ?_⟩
    · show (withoutE (writtenE e m) c).sh = _
      rw [a3, h3]
    · show (withoutE (writtenE e m) c).wa &&& ~~~(bitM c) = _
      rw [a6, h6]
theorem wait_here {e : En} {c : Int} (g : goodE e = true) (h : hasM e.wa c = true) : e.he = true := by
  cases hh : e.he
  · have : e = enE := by simpa [goodE, hh] using g
    subst this
    have : hasM (0#8) c = true := h
    rw [has_zero] at this; cases this
  · rfl
/-- Of a good entry that waits for c: what it is behind c's answer. -/
theorem answered_good {e : En} {c : Int} {m : Ms} (g : goodE e = true) (h : hasM e.wa c = true) :
    (answeredE e c m).ow = -1 ∧ Wp (answeredE e c m) ∧ ((answeredE e c m).bu = 1 ∨ (answeredE e c m).bu = 2 ∨ (answeredE e c m).bu = 4 ∨ (answeredE e c m).bu = 5) := by
  have hh := wait_here g h
  obtain ⟨hg, hb⟩ := (good_here hh).1 g
  obtain ⟨a1, a2, a3, a4, a5, a6⟩ := answered_parts e c m
  have hw : Wp e ∧ (e.bu = 1 ∨ e.bu = 2 ∨ e.bu = 4 ∨ e.bu = 5) := by
    rcases hb with ⟨_, _, h0⟩ | ⟨h0, h1, _⟩ | ⟨h0, h1⟩
    · rw [h0, has_zero] at h; cases h
    · exact ⟨h1, by omega⟩
    · exact ⟨h1, by omega⟩
  have hcc : isC c = true := by
    cases hc : isC c
    · rw [has_out hc] at h; cases h
    · rfl
  obtain ⟨k, hk, rfl⟩ := isC_nat hcc
  have how : e.ow = (k : Int) ∨ e.ow = -1 := by
    rcases hw.1.2 k hk h with h1 | h1
    · rcases hg with h2 | ⟨_, h2⟩
      · exact .inr h2
      · rw [h2, has_zero] at h1; cases h1
    · exact .inl h1
  refine ⟨?_, ⟨by rw [a5]; exact hw.1.1, ?_⟩, by rw [a4]; exact hw.2⟩
  · rw [a2]
    split
    · rfl
    · rcases how with h1 | h1
      · contradiction
      · exact h1
  · intro j hj hj2
    rw [a6, has_not, Bool.and_eq_true, Bool.not_eq_true', has_bit, hcc, Bool.true_and, decide_eq_false_iff_not] at hj2
    left
    have hsh : hasM e.sh j = true := by
      rcases hw.1.2 j hj hj2.1 with h1 | h1
      · exact h1
      · exfalso
        rcases how with h2 | h2
        · exact hj2.2 (h2.symm.trans h1)
        · omega
    rw [a3]
    have hx : hasM (e.sh &&& ~~~(bitM (k : Int))) j = true := by
      rw [has_not, hsh, has_bit, hcc, Bool.true_and, Bool.true_and, Bool.not_eq_true', decide_eq_false_iff_not]; exact hj2.2
    split
    · rw [has_or, hx]; rfl
    · exact hx
theorem ans_fit {e : En} {c : Int} {m : Ms} (g : goodE e = true) (h : hasM e.wa c = true) : Fit7 (if (answeredE e c m).wa ≠ 0#8 then (answeredE e c m, []) else settledE (answeredE e c m) m.li) := by
  have hh := wait_here g h
  obtain ⟨a1, _⟩ := answered_parts e c m
  obtain ⟨h1, h2, h3⟩ := answered_good (m := m) g h
  have hh' : (answeredE e c m).he = true := a1.trans hh
  generalize answeredE e c m = a at *
  split
  · rename_i hw
    refine ⟨hh', (good_here hh').2 ⟨.inl h1, ?_⟩, by simp⟩
    rcases h3 with h3 | h3 | h3 | h3
    · exact .inr (.inl ⟨.inl h3, h2, hw⟩)
    · exact .inr (.inl ⟨.inr h3, h2, hw⟩)
    · exact .inr (.inr ⟨.inl h3, h2⟩)
    · exact .inr (.inr ⟨.inr h3, h2⟩)
  · unfold settledE
    split
    · exact fit_shared (e := overE a) hh' h1 ⟨rfl, rfl, rfl⟩ a.by_ h2.1 m.li
    · split
      · exact fit_owned (e := overE a) hh' ⟨rfl, rfl, rfl⟩ a.by_ h2.1 10 m.li (.inr rfl)
      · refine ⟨hh', (good_here hh').2 ⟨.inl h1, .inr (.inr ⟨by omega, h2⟩)⟩, by simp⟩
theorem push_fit {e : En} (g : readyE e = true) : Fit7 ((overE e).setDi false, tellL (bitM e.by_) (ms4 14 0 false false)) := by
  have hg : goodE e = true := by simp only [readyE, Bool.and_eq_true] at g; exact g.1.1
  have hb : e.bu = 4 ∨ e.bu = 5 := by simpa [readyE, Bool.and_eq_true] using (show (e.bu == 4 || e.bu == 5) = true by simp only [readyE, Bool.and_eq_true] at g; exact g.1.2)
  have hh : e.he = true := by
    cases hh : e.he
    · have : e = enE := by simpa [goodE, hh] using hg
      subst this
      have : (0 : Int) = 4 ∨ (0 : Int) = 5 := hb
      omega
    · rfl
  obtain ⟨h1, _⟩ := (good_here hh).1 hg
  refine ⟨hh, (good_here (e := (overE e).setDi false) hh).2 ⟨h1, .inl ⟨rfl, rfl, rfl⟩⟩, ?_⟩
  intro s hs
  obtain ⟨_, h2⟩ := tell_mem (show s ∈ tellL (bitM e.by_) (ms4 14 0 false false) from hs)
  have h3 : s.m.kd = 14 := by rw [h2]; rfl
  refine ⟨fun h => ?_, fun h => ?_, fun h => ?_⟩ <;> omega

theorem askE_fit {e : En} {c : Int} {m : Ms} (h : (askE e c m).2 = 0) : Fit7 (askE e c m).1 := by
  unfold askE at h ⊢
  split at h
  · rename_i ha
    rw [if_pos ha]
    split at h
    · exact absurd h (by decide)
    · rename_i hb
      rw [if_neg hb]
      split at h
      · exact absurd h (by decide)
      · rename_i hh
        rw [if_neg hh]
        simp only [askArg, Bool.and_eq_true] at ha
        exact ask_fit ha.1.1.1 (by simpa using hh) (by simpa using hb) ha.1.1.2 ha.2
  · exact absurd h (by decide)
theorem ansE_fit {e : En} {c : Int} {m : Ms} (h : (ansE e c m).2 = 0) : Fit7 (ansE e c m).1 := by
  unfold ansE at h ⊢
  split at h
  · rename_i ha
    rw [if_pos ha]
    split at h
    · rename_i hw
      rw [if_pos hw]
      simp only [ansArg, Bool.and_eq_true] at ha
      have := ans_fit (m := m) ha.1.1.1 hw
      split
      · rename_i h0
        rwa [if_pos h0] at this
      · rename_i h0
        rwa [if_neg h0] at this
    · exact absurd h (by decide)
  · exact absurd h (by decide)
theorem pushedE_fit {e : En} (h : (pushedE e).2 = 0) : Fit7 (pushedE e).1 := by
  unfold pushedE at h ⊢
  split at h
  · rename_i hr
    rw [if_pos hr]
    exact push_fit hr
  · exact absurd h (by decide)
end Go.Proofs.YtkaabiiedfkaaaaDoor
