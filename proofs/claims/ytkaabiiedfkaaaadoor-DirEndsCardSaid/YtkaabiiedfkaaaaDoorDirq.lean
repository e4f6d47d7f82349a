/- A request that waits, while those that were told answer: no walk. No condition. -/
import Derived.Test.YtkaabiiedfkaaaaDoorDirg
namespace Go.Proofs.YtkaabiiedfkaaaaDoor
open Go.RowKit
set_option linter.unusedVariables false
set_option maxHeartbeats 1000000

/-! ### A request that waits, while those that were told answer one behind the other -/
/-- What an entry is on its way, when these have answered. -/
structure Way7 (e : En) (o : Mk) (kd c : Int) (ke : Bool) (done : List Int) (b : En) : Prop where
  he : b.he = true
  bu : b.bu = kd
  by_ : b.by_ = c
  wa : ∀ k : Nat, k < 8 → hasM b.wa k = (hasM o k && !decide ((k : Int) ∈ done))
  ow0 : done = [] → b.ow = e.ow
  ow1 : done ≠ [] → b.ow = -1
  sh : ∀ k : Nat, k < 8 → hasM b.sh k = if ke = true then (hasM e.sh k || decide ((k : Int) ∈ done)) else (hasM e.sh k && !decide ((k : Int) ∈ done))
  l : b.l = e.l
theorem Way7.start {e : En} (hh : e.he = true) (c : Int) (m : Ms) (o : Mk) (kt : Int) (ke : Bool) : Way7 e o m.kd c ke [] (waitE e c m o kt).1 where
  he := hh
  bu := rfl
  by_ := rfl
  wa := fun k _ => by simp [waitE, En.setWa]
  ow0 := fun _ => rfl
  ow1 := fun h => absurd rfl h
  sh := fun k _ => by cases ke <;> simp [waitE, En.setWa, En.setBy, En.setBu]
  l := rfl
theorem Way7.step {e : En} {o : Mk} {kd c : Int} {ke : Bool} {done : List Int} {b : En} (h : Way7 e o kd c ke done b) (g : goodE b = true) {d : Int} (hd : hasM o d = true) (hn : d ∉ done) (am : Ms) (h1 : am.di = false) (h2 : am.ke = ke) :
    hasM b.wa d = true ∧ Way7 e o kd c ke (done ++ [d]) (answeredE b d am) := by
  have hc : isC d = true := by
    cases hc : isC d
    · rw [has_out hc] at hd; cases hd
    · rfl
  obtain ⟨j, hj, rfl⟩ := isC_nat hc
  have hw : hasM b.wa (j : Int) = true := by rw [h.wa j hj, hd]; simp [hn]
  obtain ⟨a1, a2, a3, a4, a5, a6⟩ := answered_parts b (j : Int) am
  obtain ⟨q1, _, _⟩ := answered_good (m := am) g hw
  have hbit : ∀ k : Nat, hasM (bitM (j : Int)) (k : Int) = decide ((k : Int) = (j : Int)) := by
    intro k; rw [has_bit, hc, Bool.true_and]; congr 1; rw [eq_iff_iff]; exact eq_comm
  refine ⟨hw, ⟨a1.trans h.he, a4.trans h.bu, a5.trans h.by_, ?_, by simp, fun _ => q1, ?_, ?_⟩⟩
  · intro k hk
    rw [a6, has_not, h.wa k hk, hbit]
    simp only [List.mem_append, List.mem_singleton]
    cases hasM o k <;> by_cases u : (k : Int) ∈ done <;> by_cases v : (k : Int) = (j : Int) <;> simp [u, v]
  · intro k hk
    rw [a3, h2]
    cases ke
    · simp only [Bool.false_eq_true, if_false]
      rw [has_not, h.sh k hk, hbit]
      simp only [Bool.false_eq_true, if_false, List.mem_append, List.mem_singleton]
      cases hasM e.sh k <;> by_cases u : (k : Int) ∈ done <;> by_cases v : (k : Int) = (j : Int) <;> simp [u, v]
    · simp only [if_true]
      rw [has_or, has_not, h.sh k hk, hbit]
      simp only [if_true, List.mem_append, List.mem_singleton]
      cases hasM e.sh k <;> by_cases u : (k : Int) ∈ done <;> by_cases v : (k : Int) = (j : Int) <;> simp [u, v]
  · have : (answeredE b (j : Int) am).l = b.l := by
      unfold answeredE withoutE writtenE
      rw [h1]
      simp only [Bool.false_eq_true, if_false]
      split <;> split <;> rfl
    rw [this, h.l]
/-- What the answers' message has. -/
structure Am (am : Ms) (li : Int) (ke : Bool) : Prop where
  good : mg am = true
  way : answersB am.kd = true
  li : am.li = li
  di : am.di = false
  ke : am.ke = ke
theorem am_inv (li : Int) (h : lineB li = true) : Am (ms4 6 li false false) li false := ⟨by simp [mg, ms4, kindB, h], rfl, rfl, rfl, rfl⟩
theorem am_dn (li : Int) (h : lineB li = true) : Am (ms4 7 li false true) li true := ⟨by simp [mg, ms4, kindB, mayK, h], rfl, rfl, rfl, rfl⟩
/-- An order in which all that were told answer, each once. -/
structure Ord (o : Mk) (ord : List Int) : Prop where
  all : ∀ c : Int, c ∈ ord ↔ hasM o c = true
  once : ord.Nodup
theorem cores_ord (o : Mk) : Ord o (coresL o) := by
  refine ⟨fun c => mem_cores o c, ?_⟩
  unfold coresL coresTo
  exact List.Nodup.sublist List.filter_sublist (by decide)
theorem nodup_inj {l : List Int} (h : l.Nodup) {i j : Nat} (hi : i < l.length) (hj : j < l.length) (e : l[i] = l[j]) : i = j := by
  have h2 := List.pairwise_iff_getElem.1 h
  rcases Nat.lt_trichotomy i j with h3 | h3 | h3
  · exact absurd e (h2 i j hi hj h3)
  · exact h3
  · exact absurd e.symm (h2 j i hj hi h3)
theorem nodup_rev {l : List Int} (h : l.Nodup) : l.reverse.Nodup := List.pairwise_reverse.2 (List.Pairwise.imp (fun h => h.symm) h)
theorem rev_ord (o : Mk) : Ord o (coresL o).reverse := ⟨fun c => by rw [List.mem_reverse]; exact mem_cores o c, nodup_rev (cores_ord o).once⟩
/-- How far it is: j have answered. -/
def Inv7 (e : En) (o : Mk) (kd c li : Int) (ke : Bool) (ord : List Int) (j : Nat) (y : En) : Prop :=
  (j < ord.length ∧ Way7 e o kd c ke (ord.take j) y ∧ goodE y = true) ∨ (j = ord.length ∧ ∃ b, Way7 e o kd c ke ord b ∧ y = (settledE b li).1)
theorem Inv7.start {e : En} (hh : e.he = true) (hg : Gp e) (c : Int) (hc : isC c = true) (m : Ms) (o : Mk) (kt : Int) (hkt : kt = 12 ∨ kt = 13) (ke : Bool) (ord : List Int) (hO : Ord o ord) (ho : ∀ k : Nat, k < 8 → hasM o k = true → hasM e.sh k = true ∨ e.ow = (k : Int)) (hk : m.kd = 4 ∨ m.kd = 5 ∨ ((m.kd = 1 ∨ m.kd = 2) ∧ o ≠ 0#8)) :
    Inv7 e o m.kd c m.li ke ord 0 (waitE e c m o kt).1 := by
  have hs := Way7.start hh c m o kt ke
  rcases Nat.eq_zero_or_pos ord.length with h0 | h0
  · right
    obtain rfl : ord = [] := List.eq_nil_of_length_eq_zero h0
    refine ⟨rfl, _, hs, ?_⟩
    have hz : o = 0#8 := by
      apply mk_ext; intro k _
      rw [has_zero]
      cases h : hasM o k
      · rfl
      · have := (hO.all k).2 h; cases this
    have h45 : m.kd = 4 ∨ m.kd = 5 := by
      rcases hk with h | h | ⟨_, h⟩
      · exact .inl h
      · exact .inr h
      · exact absurd hz h
    have hb : (waitE e c m o kt).1.bu = m.kd := rfl
    unfold settledE
    rw [if_neg (by omega), if_neg (by omega)]
  · left
    exact ⟨h0, by rw [List.take_zero]; exact hs, (fit_wait hh hg c hc m o kt hkt ho hk).2.1⟩
/-- One more answer. -/
theorem Inv7.step {e : En} {o : Mk} {kd c li : Int} {ke : Bool} {ord : List Int} {j : Nat} {y : En} (hO : Ord o ord) (h : Inv7 e o kd c li ke ord j y) (hj : j < ord.length) (am : Ms) (hA : Am am li ke) {d : Int} (hd : ord[j]? = some d) :
    ∃ (y' : En) (ss : List Sd), ansE y d am = ((y', ss), 0) ∧ Inv7 e o kd c li ke ord (j + 1) y' ∧ (j + 1 < ord.length → ss = [] ∧ y'.bu = kd) ∧ hasM y'.wa d = false := by
  rcases h with ⟨_, hw, g⟩ | ⟨h, _⟩
  · have hmem : d ∈ ord := List.mem_of_getElem? hd
    have hod := (hO.all d).1 hmem
    have hlt := (List.getElem?_eq_some_iff.1 hd).1
    have hdv : ord[j] = d := (List.getElem?_eq_some_iff.1 hd).2
    have hn : d ∉ ord.take j := by
      intro hin
      obtain ⟨i, hi, he⟩ := List.getElem_of_mem hin
      rw [List.length_take] at hi
      rw [List.getElem_take] at he
      have := nodup_inj hO.once (by omega) hlt (he.trans hdv.symm)
      omega
    obtain ⟨h1, h2⟩ := hw.step g hod hn am hA.di hA.ke
    have htk : ord.take j ++ [d] = ord.take (j + 1) := by rw [List.take_add_one, hd]; rfl
    rw [htk] at h2
    have hc : isC d = true := by
      cases hc : isC d
      · rw [has_out hc] at hod; cases hod
      · rfl
    obtain ⟨q, hq, rfl⟩ := isC_nat hc
    have hwd : hasM (answeredE y (q : Int) am).wa (q : Int) = false := by
      rw [h2.wa q hq]
      have : (q : Int) ∈ ord.take (j + 1) := by rw [← htk]; simp
      simp [this]
    have harg : ansArg y (q : Int) am = true := by simp [ansArg, g, hc, hA.good, hA.way]
    by_cases hmore : j + 1 < ord.length
    · have hnz : (answeredE y (q : Int) am).wa ≠ 0#8 := by
        intro h0
        have hm2 : ord[j + 1] ∈ ord := List.getElem_mem hmore
        have ho2 := (hO.all _).1 hm2
        have hc2 : isC ord[j + 1] = true := by
          cases hc : isC ord[j + 1]
          · rw [has_out hc] at ho2; cases ho2
          · rfl
        obtain ⟨r, hr, hre⟩ := isC_nat hc2
        have hni : (r : Int) ∉ ord.take (j + 1) := by
          intro hin
          obtain ⟨i, hi, he⟩ := List.getElem_of_mem hin
          rw [List.length_take] at hi
          rw [List.getElem_take] at he
          have := nodup_inj hO.once (by omega) hmore (he.trans hre.symm)
          omega
        have := h2.wa r hr
        rw [h0, has_zero] at this
        rw [hre] at ho2
        rw [ho2] at this
        simp [hni] at this
      refine ⟨answeredE y (q : Int) am, [], ?_, .inl ⟨hmore, h2, ?_⟩, fun _ => ⟨rfl, h2.bu⟩, hwd⟩
      · unfold ansE; rw [if_pos harg, if_pos h1, if_pos hnz]
      · have := ans_fit (m := am) g h1
        rw [if_pos hnz] at this
        exact this.2.1
    · have hall : ord.take (j + 1) = ord := List.take_of_length_le (by omega)
      rw [hall] at h2
      have hz : (answeredE y (q : Int) am).wa = 0#8 := by
        apply mk_ext; intro k hk
        rw [h2.wa k hk, has_zero]
        cases hh : hasM o k
        · rfl
        · have := (hO.all (k : Int)).2 hh
          simp [this]
      refine ⟨(settledE (answeredE y (q : Int) am) li).1, (settledE (answeredE y (q : Int) am) li).2, ?_, .inr ⟨by omega, _, h2, rfl⟩, fun h => absurd h hmore, ?_⟩
      · unfold ansE; rw [if_pos harg, if_pos h1, if_neg (by simpa using hz), hA.li]
      · have : (settledE (answeredE y (q : Int) am) li).1.wa = 0#8 := by
          unfold settledE; split
          · rfl
          · split
            · rfl
            · exact hz
        rw [this, has_zero]
  · omega
/-- Who has answered is not waited for. -/
theorem ansE_again {y : En} {d : Int} {am : Ms} (h : hasM y.wa d = false) : ansE y d am = ((enZ, []), 1) ∨ ansE y d am = ((enZ, []), 16) := by
  unfold ansE
  split
  · rw [h]; exact .inr rfl
  · exact .inl rfl
/-- When all have answered. -/
theorem Inv7.ended {e : En} {o : Mk} {kd c li : Int} {ke : Bool} {ord : List Int} {y : En} (hO : Ord o ord) (h : Inv7 e o kd c li ke ord ord.length y) : ∃ b, Way7 e o kd c ke ord b ∧ y = (settledE b li).1 ∧ b.wa = 0#8 := by
  rcases h with ⟨h, _⟩ | ⟨_, b, hb, hy⟩
  · omega
  · refine ⟨b, hb, hy, ?_⟩
    apply mk_ext; intro k hk
    rw [hb.wa k hk, has_zero]
    cases hh : hasM o k
    · rfl
    · have := (hO.all (k : Int)).2 hh
      simp [this]
theorem ended_getM {e : En} {o : Mk} {c li : Int} {ke : Bool} {ord : List Int} {y : En} (hO : Ord o ord) (h : Inv7 e o 2 c li ke ord ord.length y) : y.bu = 0 ∧ y.ow = c ∧ y.sh = 0#8 := by
  obtain ⟨b, hb, rfl, _⟩ := h.ended hO
  have := hb.bu
  have h2 := hb.by_
  unfold settledE
  rw [if_neg (by omega), if_pos this]
  exact ⟨rfl, h2, rfl⟩
theorem ended_getS {e : En} {o : Mk} {c li : Int} {ke : Bool} {ord : List Int} {y : En} (hO : Ord o ord) (ho : o ≠ 0#8) (hc : isC c = true) (h : Inv7 e o 1 c li ke ord ord.length y) : y.bu = 0 ∧ y.ow = -1 ∧ hasM y.sh c = true := by
  obtain ⟨b, hb, rfl, _⟩ := h.ended hO
  have h1 := hb.bu
  have h2 := hb.by_
  have hne : ord ≠ [] := by
    rintro rfl
    apply ho
    apply mk_ext; intro k _
    rw [has_zero]
    cases h : hasM o k
    · rfl
    · have := (hO.all k).2 h; cases this
  have h3 := hb.ow1 hne
  unfold settledE
  rw [if_pos h1]
  refine ⟨rfl, h3, ?_⟩
  show hasM (b.sh ||| bitM b.by_) c = true
  rw [has_or, h2, has_self hc, Bool.or_true]
theorem ended_flush {e : En} {o : Mk} {kd c li : Int} {ke : Bool} {ord : List Int} {y : En} (hO : Ord o ord) (hk : kd = 4 ∨ kd = 5) (hc : isC c = true) (hz : o = 0#8 → e.ow = -1) (h : Inv7 e o kd c li ke ord ord.length y) : readyE y = true ∧ y.ow = -1 ∧ Way7 e o kd c ke ord y ∧ y.wa = 0#8 := by
  obtain ⟨b, hb, hy, hw⟩ := h.ended hO
  have h1 := hb.bu
  have he : y = b := by
    rw [hy]; unfold settledE
    rw [if_neg (by omega), if_neg (by omega)]
  subst he
  have how : y.ow = -1 := by
    by_cases hne : ord = []
    · subst hne
      rw [hb.ow0 rfl]
      apply hz
      apply mk_ext; intro k _
      rw [has_zero]
      cases h : hasM o k
      · rfl
      · have := (hO.all k).2 h; cases this
    · exact hb.ow1 hne
  refine ⟨?_, how, hb, hw⟩
  have hg : goodE y = true := (good_here hb.he).2 ⟨.inl how, .inr (.inr ⟨by omega, by rw [hb.by_]; exact hc, fun k hk h => by rw [hw, has_zero] at h; cases h⟩)⟩
  simp only [readyE, hg, hw, Bool.true_and, Bool.and_eq_true, Bool.or_eq_true, beq_iff_eq]
  exact ⟨by omega, trivial⟩
/-- What an asking that waits is. -/
theorem ask_busy {e : En} {c : Int} {m : Ms} (h0 : (askE e c m).2 = 0) (hb : (askE e c m).1.1.bu ≠ 0) : e.he = true ∧ goodE e = true ∧ Gp e ∧ isC c = true ∧ lineB m.li = true ∧ ∃ (o : Mk) (kt : Int), askE e c m = (waitE e c m o kt, 0) ∧ (∀ k : Nat, k < 8 → hasM o k = true → hasM e.sh k = true ∨ e.ow = (k : Int)) ∧
    ((m.kd = 1 ∧ kt = 13 ∧ o ≠ 0#8) ∨ (m.kd = 2 ∧ kt = 12 ∧ o ≠ 0#8) ∨ (m.kd = 4 ∧ kt = 13 ∧ o = bitM e.ow) ∨ (m.kd = 5 ∧ kt = 12 ∧ o = holders e)) := by
  unfold askE at h0 hb ⊢
  split at h0
  · rename_i ha
    rw [if_pos ha] at hb
    rw [if_pos ha]
    split at h0
    · exact absurd h0 (by decide)
    · rename_i h1
      rw [if_neg h1] at hb
      rw [if_neg h1]
      split at h0
      · exact absurd h0 (by decide)
      · rename_i hh
        rw [if_neg hh] at hb
        rw [if_neg hh]
        simp only [askArg, Bool.and_eq_true] at ha
        obtain ⟨⟨⟨g, hc⟩, hm⟩, hk⟩ := ha
        have hhe : e.he = true := by simpa using hh
        have hbu : e.bu = 0 := by simpa using h1
        obtain ⟨hg, hi⟩ := busy0 hhe g hbu
        have hl : lineB m.li = true := by simp only [mg, Bool.and_eq_true] at hm; exact hm.1.1.1.2
        refine ⟨hhe, g, hg, hc, hl, ?_⟩
        have hkk : m.kd = 1 ∨ m.kd = 2 ∨ m.kd = 3 ∨ m.kd = 4 ∨ m.kd = 5 := by simp [asksB] at hk; omega
        rcases hkk with k | k | k | k | k
        · rw [show deedE e c m = getSE e c m by simp [deedE, k]] at hb ⊢
          unfold getSE at hb ⊢
          split at hb
          · rename_i h2
            rw [if_pos h2]
            refine ⟨_, _, rfl, hold_bit, .inl ⟨k, rfl, ?_⟩⟩
            rcases hg with h3 | h3
            · exact absurd h3 h2.1
            · exact bits_zero _ h3.1
          · split at hb
            · exact absurd (show e.bu = 0 from hbu) hb
            · exact absurd (show e.bu = 0 from hbu) hb
        · rw [show deedE e c m = getME e c m by simp [deedE, k]] at hb ⊢
          unfold getME at hb ⊢
          split at hb
          · exact absurd (show e.bu = 0 from hbu) hb
          · rename_i h2
            rw [if_neg h2]
            refine ⟨_, _, rfl, ?_, .inr (.inl ⟨k, rfl, h2⟩)⟩
            intro j hj hj2
            rw [has_not, Bool.and_eq_true] at hj2
            exact (has_holders e hj).1 hj2.1
        · rw [show deedE e c m = putE e c m by simp [deedE, k]] at hb
          exfalso
          apply hb
          have hw : ∀ x : En, (withoutE x c).bu = x.bu := by intro x; unfold withoutE; split <;> rfl
          show (withoutE _ c).bu = 0
          rw [hw]
          split
          · rw [(written_parts e m).2.2.2.1]; exact hbu
          · exact hbu
        · rw [show deedE e c m = cleanE e c m by simp [deedE, k]]
          exact ⟨_, _, rfl, hold_bit, .inr (.inr (.inl ⟨k, rfl, rfl⟩))⟩
        · rw [show deedE e c m = wipeE e c m by simp [deedE, k]]
          exact ⟨_, _, rfl, fun j hj h => (has_holders e hj).1 h, .inr (.inr (.inr ⟨k, rfl, rfl⟩))⟩
  · exact absurd h0 (by decide)
theorem own_none {e : En} (hg : Gp e) (h : bitM e.ow = 0#8) : e.ow = -1 := by
  rcases hg with h1 | ⟨h1, _⟩
  · exact h1
  · exact absurd h (bits_zero _ h1)
theorem hold_none {e : En} (hg : Gp e) (h : holders e = 0#8) : e.ow = -1 := by
  rcases hg with h1 | ⟨h1, _⟩
  · exact h1
  · exfalso
    obtain ⟨k, hk, hk2⟩ := isC_nat h1
    have := (has_holders e hk).2 (.inr hk2)
    rw [h, has_zero] at this; cases this
end Go.Proofs.YtkaabiiedfkaaaaDoor
