/- One core's L1: at most one line is on its way. No condition. -/
import Derived.Test.YtadeoflkppiflaaDoorAgm
namespace Go.Proofs.YtadeoflkppiflaaDoor
open Go.RowKit
set_option linter.unusedVariables false
set_option maxHeartbeats 1000000

def wayB (x : Slt) : Bool := decide (3 < x.st)
/-- How many are on their way. -/
def wayN (xs : List Slt) : Nat := xs.countP wayB
def way1 (st : Int) : Nat := if 3 < st then 1 else 0
theorem way1_b (x : Slt) : way1 x.st = if wayB x = true then 1 else 0 := by unfold way1 wayB; simp
theorem wayN_set {xs : List Slt} {p : Nat} {x : Slt} (h : xs[p]? = some x) (y : Slt) : wayN (xs.set p y) + way1 x.st = wayN xs + way1 y.st := by
  obtain ⟨hp, rfl⟩ := List.getElem?_eq_some_iff.1 h
  have hc := List.countP_set (p := wayB) (l := xs) (i := p) (a := y) hp
  have h1 : wayB xs[p] = true → 1 ≤ List.countP wayB xs := fun h2 => List.countP_pos_iff.2 ⟨_, List.getElem_mem hp, h2⟩
  unfold wayN
  rw [hc, way1_b, way1_b]
  generalize List.countP wayB xs = c at h1
  cases a1 : wayB xs[p] <;> cases a2 : wayB y <;> simp [a1] at h1 ⊢ <;> omega
theorem way1_le (st : Int) : way1 st ≤ 1 := by unfold way1; split <;> omega
theorem way1_rest {st : Int} (h : st ≤ 3) : way1 st = 0 := by unfold way1; rw [if_neg (by omega)]
theorem way1_way {st : Int} (h : 3 < st) : way1 st = 1 := by unfold way1; rw [if_pos h]
theorem idle_way {xs : List Slt} (h : Sane xs) : idleB xs = (wayN xs == 0) := by
  rw [Bool.eq_iff_iff]
  unfold idleB wayN
  rw [List.all_eq_true, beq_iff_eq, List.countP_eq_zero]
  constructor
  · intro h1 x hx
    have := h1 x hx
    rw [rest_le (h x hx).1] at this
    unfold wayB
    simp at this ⊢
    omega
  · intro h1 x hx
    have := h1 x hx
    rw [rest_le (h x hx).1]
    unfold wayB at this
    simp at this ⊢
    omega
/-- Where a line is put: where it is, or where nothing is. -/
theorem setS_at {S N : Nat} {s : Sta} (li st : Int) (l : List Int) (h : l.length = 8) :
    (setS S N s li st l h).1 = s.1 ∨ ∃ (p : Nat) (x y : Slt), s.1[p]? = some x ∧ (setS S N s li st l h).1 = s.1.set p y ∧ y.st = st ∧ (x = findVal s.1 li ∨ (x.st = 0 ∧ dropVal s.1 li = false)) := by
  show setXs S N s.1 s.2 li st l h = s.1 ∨ _
  have e : (setS S N s li st l h).1 = setXs S N s.1 s.2 li st l h := rfl
  rw [e]
  unfold setXs
  split
  · exact .inl rfl
  · unfold place
    split
    · rename_i h1
      refine .inr ⟨_, _, _, List.getElem?_eq_getElem h1, rfl, rfl, .inl ?_⟩
      unfold findVal
      rw [List.getElem?_eq_getElem h1]
    · rename_i h1
      split
      · rename_i h2
        by_cases h3 : setOf S li * N + (seg N s.1 (setOf S li)).findIdx pFree < s.1.length
        · refine .inr ⟨_, _, _, List.getElem?_eq_getElem h3, rfl, rfl, .inr ⟨?_, by unfold dropVal; exact decide_eq_false h1⟩⟩
          have h4 : (seg N s.1 (setOf S li)).findIdx pFree < (seg N s.1 (setOf S li)).length := by
            have : (seg N s.1 (setOf S li)).length = min N (s.1.length - setOf S li * N) := by simp [seg]
            omega
          have h5 := List.findIdx_getElem (w := h4)
          have h6 := seg_get s.1 (setOf S li) _ h2
          rw [List.getElem?_eq_getElem h4, List.getElem?_eq_getElem h3] at h6
          injection h6 with h6
          rw [h6] at h5
          simpa [pFree] using h5
        · left
          exact List.set_eq_of_length_le (by omega)
      · left
        exact List.set_eq_of_length_le (Nat.le_refl _)
theorem setS_way {S N : Nat} {s : Sta} {li st : Int} {l : List Int} {h : l.length = 8} (hi : wayN s.1 = 0) : wayN (setS S N s li st l h).1 ≤ 1 := by
  rcases setS_at (S := S) (N := N) (s := s) li st l h with e | ⟨p, x, y, hp, e, hy, _⟩
  · rw [e]; omega
  · rw [e]
    have := wayN_set hp y
    have := way1_le y.st
    omega
/-- One that is found, or free, is put: what becomes of those on their way. -/
theorem setS_same {S N : Nat} {s : Sta} {li st : Int} {l : List Int} {h : l.length = 8} (hd : dropVal s.1 li = true) (hw : way1 st ≤ way1 (findVal s.1 li).st) : wayN (setS S N s li st l h).1 ≤ wayN s.1 := by
  rcases setS_at (S := S) (N := N) (s := s) li st l h with e | ⟨p, x, y, hp, e, hy, hx | hx⟩
  · rw [e]; omega
  · rw [e]
    have := wayN_set hp y
    rw [hx, hy] at this
    omega
  · rw [hx.2] at hd; cases hd
theorem setS_found {S N : Nat} {s : Sta} {li st : Int} {l : List Int} {h : l.length = 8} (hd : dropVal s.1 li = true) (hb : ¬ badSet li st) (hi : wayN s.1 = 0) (hs : 3 < st) : wayN (setS S N s li st l h).1 = 1 := by
  have e : (setS S N s li st l h).1 = setXs S N s.1 s.2 li st l h := rfl
  have hd' : s.1.findIdx (pLine li) < s.1.length := by unfold dropVal at hd; simpa using hd
  rw [e]
  unfold setXs
  rw [if_neg hb]
  unfold place
  rw [if_pos hd']
  have h1 := wayN_set (List.getElem?_eq_getElem hd') ⟨st, li, l, s.2 + 1, h⟩
  have h2 : way1 s.1[s.1.findIdx (pLine li)].st = 0 := by
    have : ∀ x ∈ s.1, ¬ wayB x = true := List.countP_eq_zero.1 hi
    have := this _ (List.getElem_mem hd')
    unfold wayB at this
    exact way1_rest (by simpa using this)
  have h3 : way1 (⟨st, li, l, s.2 + 1, h⟩ : Slt).st = 1 := way1_way hs
  omega
theorem setS_free {S N : Nat} {s : Sta} (hg : Good S N s.1) {li st : Int} {l : List Int} {h : l.length = 8} (hd : dropVal s.1 li = false) (hr : roomFree S N s.1 li = true) (hb : ¬ badSet li st) (hi : wayN s.1 = 0) (hs : 3 < st) : wayN (setS S N s li st l h).1 = 1 := by
  have e : (setS S N s li st l h).1 = setXs S N s.1 s.2 li st l h := rfl
  have hd' : ¬ s.1.findIdx (pLine li) < s.1.length := by unfold dropVal at hd; simpa using hd
  unfold roomFree at hr
  simp at hr
  rw [e]
  unfold setXs
  rw [if_neg hb]
  unfold place
  rw [if_neg hd', if_pos hr.2]
  have hp : setOf S li * N + (seg N s.1 (setOf S li)).findIdx pFree < s.1.length := by
    have := hg.fit li
    have := hg.len
    omega
  have h1 := wayN_set (List.getElem?_eq_getElem hp) ⟨st, li, l, s.2 + 1, h⟩
  have h2 : way1 s.1[setOf S li * N + (seg N s.1 (setOf S li)).findIdx pFree].st = 0 := by
    have : ∀ x ∈ s.1, ¬ wayB x = true := List.countP_eq_zero.1 hi
    have := this _ (List.getElem_mem hp)
    unfold wayB at this
    exact way1_rest (by simpa using this)
  have h3 : way1 (⟨st, li, l, s.2 + 1, h⟩ : Slt).st = 1 := way1_way hs
  omega
/-- What a call may do to what is on its way. -/
def OneW (s s' : Sta) (ms : List Ms) : Prop := ms.length ≤ 1 ∧ (ms.length = 1 → idleB s.1 = true ∧ wayN s'.1 = 1) ∧ (wayN s.1 ≤ 1 → wayN s'.1 ≤ 1)
theorem OneW.same (s : Sta) : OneW s s [] := ⟨by simp, by simp, fun h => h⟩
theorem OneW.less {s s' : Sta} (h : wayN s'.1 ≤ wayN s.1) : OneW s s' [] := ⟨by simp, by simp, fun h1 => by omega⟩
theorem OneW.asks {s s' : Sta} {m : Ms} (hi : idleB s.1 = true) (h : wayN s'.1 = 1) : OneW s s' [m] := ⟨by simp, fun _ => ⟨hi, h⟩, fun _ => by omega⟩
theorem idle0 {s : Sta} (hs : Sane s.1) (hi : idleB s.1 = true) : wayN s.1 = 0 := by
  rw [idle_way hs] at hi
  simpa using hi
theorem touch_way {s : Sta} (li : Int) : wayN (touchS s li).1 ≤ wayN s.1 := by
  show wayN (touchXs s.1 s.2 li) ≤ _
  unfold touchXs
  split
  · rename_i x hx
    have := wayN_set hx (x.use (s.2 + 1))
    have h2 : (x.use (s.2 + 1)).st = x.st := rfl
    rw [h2] at this
    omega
  · omega
theorem drop_way {s : Sta} (li : Int) : wayN (dropS s li).1 ≤ wayN s.1 := by
  show wayN (dropXs s.1 li) ≤ _
  unfold dropXs
  by_cases h : s.1.findIdx (pLine li) < s.1.length
  · have := wayN_set (List.getElem?_eq_getElem h) sltZ
    have h2 : way1 sltZ.st = 0 := rfl
    omega
  · rw [List.set_eq_of_length_le (by omega)]; omega
theorem rest_drop {s : Sta} {li : Int} (hi : idleB s.1 = true) (hm : atRest (findVal s.1 li).st = false) : dropVal s.1 li = false := by
  rw [find_drop]
  rcases idle_find hi li with h | h
  · rw [h]; rfl
  · rw [h] at hm; cases hm
theorem hearF_one {S N : Nat} {s : Sta} (m : Ms) : OneW s (hearF S N s m).1 [] := by
  unfold hearF
  split
  · split
    · exact .same s
    · rename_i hn
      show OneW s (hearX S N s m _) []
      unfold hearX
      split
      · exact .less (drop_way _)
      · split
        · exact .same s
        · rename_i h10 h11
          have h14 : m.kd ≠ 14 := by
            intro h
            apply h11
            rw [h]; rfl
          have hst := tb_line hn h14
          obtain ⟨_, hd⟩ := find_line hst
          refine .less (setS_same hd ?_)
          unfold way1
          split
          · rename_i h3
            rw [if_pos]
            · omega
            · revert h3 hn h10 h11
              generalize (findVal s.1 m.li).st = z
              unfold tb
              intro hn h10 h11 h3
              repeat' split at h3
              all_goals omega
          · omega
  · exact .same s
section
variable {S N : Nat} {s : Sta} (hg : Good S N s.1) (hs : Sane s.1)
include hg hs
theorem outF_one (hi : idleB s.1 = true) (li : Int) : OneW s (outF S N s li).1 (outF S N s li).2 := by
  cases hr : atRest (findVal s.1 li).st
  · unfold outF
    rw [if_neg (by simp [hr])]
    exact .same s
  · have hst := (rest_iff _).1 hr
    obtain ⟨hl, hd⟩ := find_line (xs := s.1) (li := li) (by omega)
    have h0 : 0 ≤ li := by
      rcases Int.lt_or_le li 0 with h | h
      · rw [find_neg hg h] at hst; simp [sltZ] at hst
      · exact h
    unfold outF
    rw [if_pos hr]
    refine .asks hi (setS_found hd ?_ (idle0 hs hi) ?_)
    · unfold badSet outNx; split <;> omega
    · unfold outNx; split <;> omega
theorem getF_one (hi : idleB s.1 = true) {li st kd : Int} (h0 : 0 ≤ li) (h4 : 4 ≤ st) (h9 : st ≤ 9) (hd : dropVal s.1 li = false) : OneW s (getF S N s li st kd).1 (getF S N s li st kd).2 := by
  cases hr : roomFree S N s.1 li
  · unfold getF
    rw [if_neg (by simp [hr])]
    exact outF_one hg hs hi _
  · unfold getF
    rw [if_pos hr]
    exact .asks hi (setS_free hg hd hr (by unfold badSet; omega) (idle0 hs hi) (by omega))
theorem loadF_one (li k : Int) : OneW s (loadF S N s li k).1 (loadF S N s li k).2.2.2 := by
  unfold loadF
  split
  · rename_i hc
    rw [Bool.and_eq_true] at hc
    have h0 : 0 ≤ li := by have := hc.1; simp [isLn] at this; exact this.1
    split
    · exact .less (touch_way li)
    · rename_i hm
      split
      · rename_i hi
        refine getF_one hg hs hi h0 (by omega) (by omega) (rest_drop hi ?_)
        unfold mayR at hm
        cases h : atRest (findVal s.1 li).st
        · rfl
        · rw [h] at hm; simp at hm
      · exact .same s
  · exact .same s
theorem reachF_one (li : Int) : OneW s (reachF S N s li).1 (reachF S N s li).2 := by
  unfold reachF
  split
  · rename_i hc
    rw [Bool.and_eq_true, Bool.and_eq_true] at hc
    have h0 : 0 ≤ li := by have := hc.1.1; simp [isLn] at this; exact this.1
    split
    · rename_i hd
      exact .asks hc.2 (setS_found hd (by unfold badSet; omega) (idle0 hs hc.2) (by omega))
    · rename_i hd
      exact getF_one hg hs hc.2 h0 (by omega) (by omega) (by simpa using hd)
  · exact .same s
theorem storeF_one (li k v : Int) : OneW s (storeF S N s li k v).1 (storeF S N s li k v).2.2 := by
  unfold storeF
  split
  · split
    · rename_i ho
      unfold ownsB mayWr at ho
      have hst : (findVal s.1 li).st ≠ 0 := by intro h; rw [h] at ho; simp at ho
      obtain ⟨_, hd⟩ := find_line hst
      exact .less (setS_same hd (by rw [way1_rest (by omega)]; omega))
    · exact reachF_one hg hs li
  · exact .same s
theorem evictF_one (li : Int) : OneW s (evictF S N s li).1 (evictF S N s li).2.1 := by
  unfold evictF
  split
  · rename_i hi
    exact outF_one hg hs hi li
  · exact .same s
end
/-- A step of the statement's: what is left, what is asked. -/
def stepA (S N : Nat) (s : Sta) (kd li wd v : Int) (m : Ms) : Sta × List Ms :=
  if kd = 0 then ((loadF S N s li wd).1, (loadF S N s li wd).2.2.2) else if kd = 1 then ((storeF S N s li wd v).1, (storeF S N s li wd v).2.2)
  else if kd = 2 then ((hearF S N s m).1, []) else if kd = 3 then ((evictF S N s li).1, (evictF S N s li).2.1) else if kd = 4 then reachF S N s li else (s, [])
end Go.Proofs.YtadeoflkppiflaaDoor
