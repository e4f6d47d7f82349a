/- One core's L1: what each call answers, and leaves, as functions of its slots. No condition. -/
import Derived.Test.YtadeoflkppiflaaDoorArrm
import Derived.Test.YtadeoflkppiflaaDoorMsgm
namespace Go.Proofs.YtadeoflkppiflaaDoor
open Go.RowKit
set_option linter.unusedVariables false
set_option maxHeartbeats 1000000

/-- Slots, and how often they were used. -/
abbrev Sta := List Slt × Int
def zl8 : List Int := [0, 0, 0, 0, 0, 0, 0, 0]
def mayR (st : Int) : Bool := atRest st || st == 6
def mayWr (st : Int) : Bool := st == 2 || st == 3
def isLn (li : Int) : Bool := decide (0 ≤ li) && decide (li < 64)
def isWd (k : Int) : Bool := decide (0 ≤ k) && decide (k < 8)
def restB (x : Slt) : Bool := x.st == 0 || atRest x.st
/-- Nothing is on its way. -/
def idleB (xs : List Slt) : Bool := xs.all restB
def ownsB (xs : List Slt) (li : Int) : Bool := mayWr (findVal xs li).st
/-- A message of a slot's line, with its words, if these were written here. -/
def toldM (kd : Int) (x : Slt) (ke : Bool) : Ms := if x.st = 3 ∨ x.st = 9 then ⟨kd, x.li, true, ke, x.l, x.h⟩ else ms4 kd x.li false ke
/-- What a message of a kind makes of a slot in a state. -/
def tb (kd st : Int) : Int :=
  if kd = 8 then (if st = 4 then 1 else 0)
  else if kd = 9 then (if st = 4 then 2 else 0)
  else if kd = 10 then (if st = 5 ∨ st = 6 then 2 else 0)
  else if kd = 11 then (if st = 7 ∨ st = 8 ∨ st = 9 then 10 else 0)
  else if kd = 12 then (if st = 1 ∨ st = 2 ∨ st = 3 then 10 else if st = 6 then 5 else if st = 7 ∨ st = 9 then 8 else 0)
  else if kd = 13 then (if st = 2 ∨ st = 3 then 1 else if st = 7 ∨ st = 9 then 8 else 0)
  else if kd = 14 then 11 else 0
def wordsL (m : Ms) (x : Slt) (nx : Int) : List Int := if nx = 5 ∨ nx = 8 then zl8 else if m.kd = 13 then x.l else m.l
theorem wordsL_len (m : Ms) (x : Slt) (nx : Int) : (wordsL m x nx).length = 8 := by
  unfold wordsL
  split
  · rfl
  · split
    · exact x.h
    · exact m.h
def answersL (kd : Int) (x : Slt) (nx : Int) : List Ms := if kd = 12 then [toldM 6 x false] else if kd = 13 then [toldM 7 x (nx == 1)] else []
section
variable (S N : Nat)
def setS (s : Sta) (li st : Int) (l : List Int) (h : l.length = 8) : Sta := (setXs S N s.1 s.2 li st l h, setU S N s.1 s.2 li st)
def touchS (s : Sta) (li : Int) : Sta := (touchXs s.1 s.2 li, touchU s.1 s.2 li)
def dropS (s : Sta) (li : Int) : Sta := (dropXs s.1 li, s.2)
def outNx (st : Int) : Int := if st = 3 then 9 else 7
def outF (s : Sta) (li : Int) : Sta × List Ms :=
  if atRest (findVal s.1 li).st = true then (setS S N s li (outNx (findVal s.1 li).st) (findVal s.1 li).l (findVal s.1 li).h, [toldM 3 (findVal s.1 li) false]) else (s, [])
def getF (s : Sta) (li st kd : Int) : Sta × List Ms :=
  if roomFree S N s.1 li = true then (setS S N s li st zl8 rfl, [ms4 kd li false false]) else outF S N s (roomVic S N s.1 li)
def loadF (s : Sta) (li k : Int) : Sta × (Int × Bool × List Ms) :=
  if (isLn li && isWd k) = true then
    (if mayR (findVal s.1 li).st = true then (touchS s li, ((findVal s.1 li).l.getD k.toNat 0, true, []))
     else if idleB s.1 = true then ((getF S N s li 4 1).1, (0, false, (getF S N s li 4 1).2)) else (s, (0, false, [])))
  else (s, (0, false, []))
def reachF (s : Sta) (li : Int) : Sta × List Ms :=
  if (isLn li && !ownsB s.1 li && idleB s.1) = true then
    (if dropVal s.1 li = true then (setS S N s li 6 (findVal s.1 li).l (findVal s.1 li).h, [ms4 2 li false false]) else getF S N s li 5 2)
  else (s, [])
def storeF (s : Sta) (li k v : Int) : Sta × (Bool × List Ms) :=
  if (isLn li && isWd k) = true then
    (if ownsB s.1 li = true then (setS S N s li 3 ((findVal s.1 li).l.set k.toNat v) (by rw [List.length_set]; exact (findVal s.1 li).h), (true, []))
     else ((reachF S N s li).1, (false, (reachF S N s li).2)))
  else (s, (false, []))
def evictF (s : Sta) (li : Int) : Sta × (List Ms × Int) :=
  if idleB s.1 = true then ((outF S N s li).1, ((outF S N s li).2, if (outF S N s li).2 = [] then 14 else 0)) else (s, ([], 15))
def hearX (s : Sta) (m : Ms) (nx : Int) : Sta := if nx = 10 then dropS s m.li else if nx = 11 then s else setS S N s m.li nx (wordsL m (findVal s.1 m.li) nx) (wordsL_len _ _ _)
def hearF (s : Sta) (m : Ms) : Sta × (List Ms × Int) :=
  if (mg m && tellsB m.kd) = true then
    (if tb m.kd (findVal s.1 m.li).st = 0 then (s, ([], 16))
     else (hearX S N s m (tb m.kd (findVal s.1 m.li).st), (answersL m.kd (findVal s.1 m.li) (tb m.kd (findVal s.1 m.li).st), 0)))
  else (s, ([], 1))
end

/-! ### Parts of a message, and of a slot, that are written -/
def Ms.putDi (m : Ms) (b : Bool) : Ms := ⟨m.kd, m.li, b, m.ke, m.l, m.h⟩
def Ms.putKe (m : Ms) (b : Bool) : Ms := ⟨m.kd, m.li, m.di, b, m.l, m.h⟩
def Ms.putL (m : Ms) (l : List Int) (h : l.length = 8) : Ms := ⟨m.kd, m.li, m.di, m.ke, l, h⟩
def Slt.putL (x : Slt) (l : List Int) (h : l.length = 8) : Slt := ⟨x.st, x.li, l, x.us, h⟩
theorem ms4_k (a b : Int) (d e : Bool) (k : Int) : (msc (ms4 a b d e)).setIfInBounds 0 (.int .i64 k) = msc (ms4 k b d e) := by simp [msc, Ms.enc, ms4]
theorem ms4_l (a b : Int) (d e : Bool) (k : Int) : (msc (ms4 a b d e)).setIfInBounds 1 (.int .i64 k) = msc (ms4 a k d e) := by simp [msc, Ms.enc, ms4]
theorem ms4_e (a b : Int) (d e : Bool) (k : Bool) : (msc (ms4 a b d e)).setIfInBounds 3 (.bool k) = msc (ms4 a b d k) := by simp [msc, Ms.enc, ms4]
theorem msc_putDi (m : Ms) (b : Bool) : (msc m).setIfInBounds 2 (.bool b) = msc (m.putDi b) := by simp [msc, Ms.enc, Ms.putDi]
theorem msc_putKe (m : Ms) (b : Bool) : (msc m).setIfInBounds 3 (.bool b) = msc (m.putKe b) := by simp [msc, Ms.enc, Ms.putKe]
theorem msc_put (m : Ms) (l : List Int) (h : l.length = 8) (t : TypeId) (f : Nat × Nat) : rowPut (some (.cells (msc m) t f)) 4 (vs l) = some (.cells (msc (m.putL l h)) t f) := by
  rw [rowPut_some]
  have hm := m.h
  simp [msc, Ms.enc, Ms.putL, vs, splice, h, hm]
theorem msc_putX (m : Ms) (x : Slt) (t : TypeId) (f : Nat × Nat) : rowPut (some (.cells (msc m) t f)) 4 (vs x.l) = some (.cells (msc (m.putL x.l x.h)) t f) := msc_put m x.l x.h t f
theorem msc_has (m : Ms) (t : TypeId) : rowHas (some (.cells (msc m) t (0, 0))) 4 8 = true := by
  rw [rowHas_some, msc_size]; exact decide_eq_true (show 4 + 8 ≤ 12 by omega)
theorem slc_word (x : Slt) (k : Nat) (h : k < 8) : (slc x)[2 + k]? = some (.int .u64 (x.l.getD k 0)) := by
  have h8 : x.l.length = 8 := x.h
  unfold slc Slt.enc
  rw [List.getElem?_toArray, show 2 + k = k + 1 + 1 by omega, List.getElem?_cons_succ, List.getElem?_cons_succ, List.getElem?_append_left (by simp [h8, h]), List.getElem?_map, List.getD_eq_getElem?_getD, List.getElem?_eq_getElem (by omega)]
  rfl
theorem slc_setWord (x : Slt) (k : Nat) (v : Int) (h : k < 8) : (slc x).setIfInBounds (2 + k) (.int .u64 v) = slc (x.putL (x.l.set k v) (by rw [List.length_set]; exact x.h)) := by
  have h8 : x.l.length = 8 := x.h
  unfold slc Slt.enc Slt.putL
  rw [List.setIfInBounds_toArray, show 2 + k = k + 1 + 1 by omega, List.set_cons_succ, List.set_cons_succ, List.set_append_left _ _ (by simp [h8, h]), List.map_set]

/-! ### What is so of all slots -/
/-- Each state is one that there is. -/
def Sane (xs : List Slt) : Prop := ∀ x ∈ xs, 0 ≤ x.st ∧ x.st ≤ 9
theorem Sane.put {xs : List Slt} (h : Sane xs) (k : Nat) (y : Slt) (hy : 0 ≤ y.st ∧ y.st ≤ 9) : Sane (xs.set k y) := by
  intro x hx
  rcases List.mem_or_eq_of_mem_set hx with h1 | rfl
  · exact h x h1
  · exact hy
theorem Sane.set {S N : Nat} {s : Sta} (h : Sane s.1) (li st : Int) (l : List Int) (hl : l.length = 8) : Sane (setS S N s li st l hl).1 := by
  show Sane (setXs S N s.1 s.2 li st l hl)
  unfold setXs
  split
  · exact h
  · rename_i hb
    exact h.put _ _ (by unfold badSet at hb; show 0 ≤ st ∧ st ≤ 9; omega)
theorem Sane.touch {s : Sta} (h : Sane s.1) (li : Int) : Sane (touchS s li).1 := by
  show Sane (touchXs s.1 s.2 li)
  unfold touchXs
  split
  · rename_i x hx
    exact h.put _ _ (h x (List.mem_of_getElem? hx))
  · exact h
theorem Sane.drop {s : Sta} (h : Sane s.1) (li : Int) : Sane (dropS s li).1 := h.put _ _ (by decide)
theorem Sane.new (n : Nat) : Sane (List.replicate n sltZ) := by
  intro x hx
  rw [List.eq_of_mem_replicate hx]
  decide
/-- What is found is one of them, or none. -/
theorem find_mem (xs : List Slt) (li : Int) : (findVal xs li ∈ xs ∧ pLine li (findVal xs li) = true ∧ dropVal xs li = true) ∨ (findVal xs li = sltZ ∧ dropVal xs li = false ∧ ∀ x ∈ xs, pLine li x = false) := by
  unfold findVal dropVal
  by_cases h : xs.findIdx (pLine li) < xs.length
  · rw [List.getElem?_eq_getElem h]
    exact .inl ⟨List.getElem_mem h, List.findIdx_getElem, by simpa using h⟩
  · rw [List.getElem?_eq_none (by omega)]
    refine .inr ⟨rfl, by simpa using h, fun x hx => ?_⟩
    have e : xs.findIdx (pLine li) = xs.length := Nat.le_antisymm List.findIdx_le_length (by omega)
    simpa using List.findIdx_eq_length.1 e x hx
theorem find_sane {xs : List Slt} (h : Sane xs) (li : Int) : 0 ≤ (findVal xs li).st ∧ (findVal xs li).st ≤ 9 := by
  rcases find_mem xs li with ⟨h1, _⟩ | ⟨h1, _⟩
  · exact h _ h1
  · rw [h1]; decide
theorem find_line {xs : List Slt} {li : Int} (h : (findVal xs li).st ≠ 0) : (findVal xs li).li = li ∧ dropVal xs li = true := by
  rcases find_mem xs li with ⟨_, h1, h2⟩ | ⟨h1, _⟩
  · exact ⟨(pLine_yes h1).2, h2⟩
  · rw [h1] at h; exact absurd rfl h
theorem find_drop {xs : List Slt} {li : Int} : dropVal xs li = ((findVal xs li).st != 0) := by
  rcases find_mem xs li with ⟨_, h1, h2⟩ | ⟨h1, h2, _⟩
  · rw [h2]; have := (pLine_yes h1).1; simp [this]
  · rw [h1, h2]; rfl
theorem idle_find {xs : List Slt} (h : idleB xs = true) (li : Int) : (findVal xs li).st = 0 ∨ atRest (findVal xs li).st = true := by
  rcases find_mem xs li with ⟨h1, _⟩ | ⟨h1, _⟩
  · have := List.all_eq_true.1 h _ h1
    unfold restB at this
    rw [Bool.or_eq_true] at this
    simpa using this
  · left; rw [h1]; rfl
theorem rest_iff (st : Int) : atRest st = true ↔ 1 ≤ st ∧ st ≤ 3 := by unfold atRest; simp
theorem rest_le {x : Slt} (h : 0 ≤ x.st) : restB x = decide (x.st ≤ 3) := by
  unfold restB atRest
  rw [Bool.eq_iff_iff]
  simp
  omega
/-- A line below 0 is nowhere. -/
theorem find_neg {S N : Nat} {xs : List Slt} (h : Good S N xs) {li : Int} (h0 : li < 0) : findVal xs li = sltZ := by
  rcases find_mem xs li with ⟨h1, h2, _⟩ | ⟨h1, _⟩
  · obtain ⟨i, hi, e⟩ := List.getElem_of_mem h1
    have := h.home i _ (List.getElem?_eq_some_iff.2 ⟨hi, e⟩) (pLine_yes h2).1
    have := (pLine_yes h2).2
    omega
  · exact h1
/-- Whose line may go is the line of one at rest. -/
theorem eldS_mem (ys : List Slt) (a : Int × Int) : (ys.foldl eldStep a).1 = a.1 ∨ ∃ x ∈ ys, atRest x.st = true ∧ x.li = (ys.foldl eldStep a).1 := by
  induction ys generalizing a with
  | nil => exact .inl rfl
  | cons y ys ih =>
    rw [List.foldl_cons]
    rcases ih (eldStep a y) with h | ⟨x, h1, h2, h3⟩
    · rw [h]
      unfold eldStep
      split
      · rename_i hc
        rw [Bool.and_eq_true] at hc
        exact .inr ⟨y, List.mem_cons_self .., hc.1, rfl⟩
      · exact .inl rfl
    · exact .inr ⟨x, List.mem_cons_of_mem _ h1, h2, h3⟩
theorem eld_mem {ys : List Slt} (h : 0 ≤ eld ys) : ∃ x ∈ ys, atRest x.st = true ∧ x.li = eld ys := by
  rcases eldS_mem ys (-1, 0) with h1 | h1
  · have : eld ys = -1 := h1
    omega
  · exact h1
theorem seg_mem {N : Nat} {xs : List Slt} {t : Nat} {x : Slt} (h : x ∈ seg N xs t) : x ∈ xs := List.mem_of_mem_drop (List.mem_of_mem_take h)
/-- Where nothing is on its way a line that may go is at rest. -/
theorem eld_rest {N : Nat} {xs : List Slt} {t : Nat} (hi : idleB xs = true) (h : 0 ≤ eld (seg N xs t)) : atRest (findVal xs (eld (seg N xs t))).st = true := by
  obtain ⟨x, h1, h2, h3⟩ := eld_mem h
  rcases idle_find hi (eld (seg N xs t)) with h4 | h4
  · rcases find_mem xs (eld (seg N xs t)) with ⟨_, h5, _⟩ | ⟨_, _, h5⟩
    · exact absurd h4 (pLine_yes h5).1
    · have := h5 x (seg_mem h1)
      unfold pLine at this
      rw [h3] at this
      have h6 := (rest_iff x.st).1 h2
      simp at this
      omega
  · exact h4
theorem outF_none {S N : Nat} {s : Sta} (h : Good S N s.1) {li : Int} (h0 : li < 0) : outF S N s li = (s, []) := by
  unfold outF
  rw [if_neg]
  rw [find_neg h h0]
  decide
/-- The table's bounds. -/
theorem tb_le (kd st : Int) : 0 ≤ tb kd st ∧ tb kd st ≤ 11 := by
  unfold tb
  repeat' split
  all_goals omega
theorem tb_line {kd st : Int} (h : tb kd st ≠ 0) (h14 : kd ≠ 14) : st ≠ 0 := by
  rintro rfl
  apply h
  unfold tb
  simp [h14]
/-! ### How often they were used -/
theorem setS_u {S N : Nat} {s : Sta} {li st : Int} {l : List Int} {h : l.length = 8} : s.2 ≤ (setS S N s li st l h).2 ∧ (setS S N s li st l h).2 ≤ s.2 + 1 := setU_le
theorem touchS_u {s : Sta} {li : Int} : s.2 ≤ (touchS s li).2 ∧ (touchS s li).2 ≤ s.2 + 1 := touchU_le
theorem dropS_u {s : Sta} {li : Int} : s.2 ≤ (dropS s li).2 ∧ (dropS s li).2 ≤ s.2 + 1 := by unfold dropS; show s.2 ≤ s.2 ∧ _; omega
theorem outF_u {S N : Nat} {s : Sta} {li : Int} : s.2 ≤ (outF S N s li).1.2 ∧ (outF S N s li).1.2 ≤ s.2 + 1 := by
  unfold outF; split
  · exact setS_u
  · show s.2 ≤ s.2 ∧ s.2 ≤ s.2 + 1; omega
theorem getF_u {S N : Nat} {s : Sta} {li st kd : Int} : s.2 ≤ (getF S N s li st kd).1.2 ∧ (getF S N s li st kd).1.2 ≤ s.2 + 1 := by
  unfold getF; split
  · exact setS_u
  · exact outF_u
theorem same_u {s : Sta} : s.2 ≤ s.2 ∧ s.2 ≤ s.2 + 1 := by omega
theorem loadF_u {S N : Nat} {s : Sta} {li k : Int} : s.2 ≤ (loadF S N s li k).1.2 ∧ (loadF S N s li k).1.2 ≤ s.2 + 1 := by
  unfold loadF; split
  · split
    · exact touchS_u
    · split
      · exact getF_u
      · exact same_u
  · exact same_u
theorem reachF_u {S N : Nat} {s : Sta} {li : Int} : s.2 ≤ (reachF S N s li).1.2 ∧ (reachF S N s li).1.2 ≤ s.2 + 1 := by
  unfold reachF; split
  · split
    · exact setS_u
    · exact getF_u
  · exact same_u
theorem storeF_u {S N : Nat} {s : Sta} {li k v : Int} : s.2 ≤ (storeF S N s li k v).1.2 ∧ (storeF S N s li k v).1.2 ≤ s.2 + 1 := by
  unfold storeF; split
  · split
    · exact setS_u
    · exact reachF_u
  · exact same_u
theorem evictF_u {S N : Nat} {s : Sta} {li : Int} : s.2 ≤ (evictF S N s li).1.2 ∧ (evictF S N s li).1.2 ≤ s.2 + 1 := by
  unfold evictF; split
  · exact outF_u
  · exact same_u
theorem hearF_u {S N : Nat} {s : Sta} {m : Ms} : s.2 ≤ (hearF S N s m).1.2 ∧ (hearF S N s m).1.2 ≤ s.2 + 1 := by
  unfold hearF; split
  · split
    · exact same_u
    · show s.2 ≤ (hearX S N s m _).2 ∧ (hearX S N s m _).2 ≤ s.2 + 1
      unfold hearX
      split
      · exact dropS_u
      · split
        · exact same_u
        · exact setS_u
  · exact same_u
end Go.Proofs.YtadeoflkppiflaaDoor
