/- One core's stores to one word. No condition. -/
import Derived.Test.YtgpmhbkpagfjaaaBlf
import Derived.Test.YtgpmhbkpagfjaaaBwk
namespace Go.Proofs.Ytgpmhbkpagfjaaa
open Go.RowKit
set_option linter.unusedVariables false
set_option maxHeartbeats 1000000

/-! ### One core's stores to one word -/
def stA (v : Int) : Be := ⟨false, 3, 1, v⟩
structure OrdI (S : Bs) (vs : List Int) (last cur : Int) : Prop where
  buf : (S.core 0).buf = vs.map stA
  sm : (S.core 0).sm = if vs = [] then [] else [((3, 1), ((vs.length : Int), last))]
  tm : (S.core 0).tm = []
  st : (S.core 0).st = false
  la : (S.core 0).la.kd ≠ 4
  s1 : (S.core 1).sm = []
  t1 : (S.core 1).st = false
  w : S.word 3 1 = cur
section
variable {S : Bs} {N : Nat} {vs : List Int} {last cur : Int}
theorem do_is (ok : S.Ok 6 2 N) (e : Ev) (h1 : kindB e.kd = true) (h2 : isOfB e.co 2 = true) (h3 : isOfB e.li 6 = true) (h4 : isOfB e.wo 8 = true) : doB S e = (actB S e).map fun T => lastB T e := by
  unfold doB hasB
  rw [ok.cs, ok.ps, show ((2 : Nat) : Int) = 2 from rfl, show ((6 : Nat) : Int) = 6 from rfl, h1, h2, h3, h4]
  simp
theorem core_last {T : Bs} (hT : T.cs.length = 2) {e : Ev} {i : Nat} (he : e.co = (i : Int)) (hi : i < 2) (hn : namesC e.kd = true) (k : Nat) : (lastB T e).core k = if k = i then { T.core i with la := e } else T.core k := by
  unfold lastB
  rw [if_pos hn]
  unfold Bs.last
  have : e.co.toNat = i := by omega
  rw [this]
  exact core_setC (by omega) _ k
theorem word_last (T : Bs) (e : Ev) (l o : Nat) : (lastB T e).word l o = T.word l o := by
  unfold lastB
  split <;> rfl
theorem new_none {vs : List Int} (h : (S.core 0).sm = if vs = [] then [] else [((3, 1), ((vs.length : Int), last))]) : newO (S.core 0).sm (3, 1) = if vs = [] then (0, 0) else ((vs.length : Int), last) := by
  unfold newO
  rw [h]
  split
  · rfl
  · simp [lookA]
theorem ord_issue (ok : S.Ok 6 2 N) (h : OrdI S vs last cur) (v : Int) : ∃ T, doB S ⟨12, 0, 3, 1, v⟩ = some T ∧ OrdI T (vs ++ [v]) v cur := by
  have e1 : actB S ⟨12, 0, 3, 1, v⟩ = if !(S.core 0).st then some (S.setC 0 ((S.core 0).putE (stA v))) else none := rfl
  have hcs : 0 < S.cs.length := by rw [ok.cs]; omega
  have cc := core_setC hcs ((S.core 0).putE (stA v))
  refine ⟨_, by rw [do_is ok _ rfl rfl rfl rfl, e1, h.st]; rfl, ?_⟩
  have hl : (S.setC 0 ((S.core 0).putE (stA v))).cs.length = 2 := by simp [Bs.setC, ok.cs]
  have c0 := core_last hl (e := ⟨12, 0, 3, 1, v⟩) (i := 0) rfl (by omega) rfl 0
  have c1 := core_last hl (e := ⟨12, 0, 3, 1, v⟩) (i := 0) rfl (by omega) rfl 1
  rw [if_pos rfl, cc 0, if_pos rfl] at c0
  rw [if_neg (by omega), cc 1, if_neg (by omega)] at c1
  have hb : ((S.core 0).putE (stA v)).buf = (vs ++ [v]).map stA := by
    show (S.core 0).buf ++ [stA v] = _
    rw [h.buf]; simp
  have hs : ((S.core 0).putE (stA v)).sm = if vs ++ [v] = [] then [] else [((3, 1), (((vs ++ [v]).length : Int), v))] := by
    show (if (stA v).fl then (S.core 0).sm else putA (3, 1) ((newO (S.core 0).sm (3, 1)).1 + 1, v) (S.core 0).sm) = _
    rw [new_none h.sm, h.sm]
    cases vs with
    | nil => rfl
    | cons x r => simp [putA, stA]
  exact ⟨by rw [c0]; exact hb, by rw [c0]; exact hs, by rw [c0]; exact h.tm, by rw [c0]; exact h.st, by rw [c0]; exact (by decide : ¬ (12 : Int) = 4), by rw [c1]; exact h.s1, by rw [c1]; exact h.t1, by rw [word_last]; exact h.w⟩
theorem ord_same (ok : S.Ok 6 2 N) (h : OrdI S vs last cur) (e : Ev) {i : Nat} (he : e.co = (i : Int)) (hi : i < 2) (hn : namesC e.kd = true) (h4 : e.kd ≠ 4) : OrdI (lastB S e) vs last cur := by
  have c0 := core_last ok.cs he hi hn 0
  have c1 := core_last ok.cs he hi hn 1
  have w0 := word_last S e 3 1
  rcases (by omega : i = 0 ∨ i = 1) with rfl | rfl
  · rw [if_pos rfl] at c0
    rw [if_neg (by omega)] at c1
    exact ⟨by rw [c0]; exact h.buf, by rw [c0]; exact h.sm, by rw [c0]; exact h.tm, by rw [c0]; exact h.st, by rw [c0]; exact h4, by rw [c1]; exact h.s1, by rw [c1]; exact h.t1, by rw [w0]; exact h.w⟩
  · rw [if_neg (by omega)] at c0
    rw [if_pos rfl] at c1
    exact ⟨by rw [c0]; exact h.buf, by rw [c0]; exact h.sm, by rw [c0]; exact h.tm, by rw [c0]; exact h.st, by rw [c0]; exact h.la, by rw [c1]; exact h.s1, by rw [c1]; exact h.t1, by rw [w0]; exact h.w⟩
theorem ord_own (ok : S.Ok 6 2 N) (h : OrdI S vs last cur) (hv : vs ≠ []) (v : Int) : doB S ⟨2, 0, 3, 1, v⟩ = if last = v then some (lastB S ⟨2, 0, 3, 1, v⟩) else none := by
  have e1 : actB S ⟨2, 0, 3, 1, v⟩ = if !(S.core 0).st && ((lookA (3, 1) (S.core 0).sm).isSome && (newO (S.core 0).sm (3, 1)).2 == v) then some S else none := rfl
  rw [do_is ok _ rfl rfl rfl rfl, e1, new_none h.sm, h.sm, h.st, if_neg hv, if_neg hv]
  by_cases e : last = v
  · simp [lookA, e]
  · simp [lookA, e]
theorem ord_load_no (ok : S.Ok 6 2 N) (h : OrdI S vs last cur) (hv : vs ≠ []) (v : Int) : doB S ⟨1, 0, 3, 1, v⟩ = none := by
  have e1 : actB S ⟨1, 0, 3, 1, v⟩ = if !(S.core 0).st && ((lookA (3, 1) (S.core 0).sm).isNone && S.word 3 1 == v) then some S else none := rfl
  rw [do_is ok _ rfl rfl rfl rfl, e1, h.sm, h.st, if_neg hv]
  simp [lookA]
theorem ord_load_yes (ok : S.Ok 6 2 N) (h : OrdI S [] last cur) : doB S ⟨1, 0, 3, 1, cur⟩ = some (lastB S ⟨1, 0, 3, 1, cur⟩) := by
  have e1 : actB S ⟨1, 0, 3, 1, cur⟩ = if !(S.core 0).st && ((lookA (3, 1) (S.core 0).sm).isNone && S.word 3 1 == cur) then some S else none := rfl
  rw [do_is ok _ rfl rfl rfl rfl, e1, h.sm, h.st, h.w]
  simp [lookA]
theorem ord_load_other (ok : S.Ok 6 2 N) (h : OrdI S vs last cur) : doB S ⟨1, 1, 3, 1, cur⟩ = some (lastB S ⟨1, 1, 3, 1, cur⟩) := by
  have e1 : actB S ⟨1, 1, 3, 1, cur⟩ = if !(S.core 1).st && ((lookA (3, 1) (S.core 1).sm).isNone && S.word 3 1 == cur) then some S else none := rfl
  rw [do_is ok _ rfl rfl rfl rfl, e1, h.s1, h.t1, h.w]
  simp [lookA]
theorem ord_store_no (ok : S.Ok 6 2 N) {x : Int} {r : List Int} (h : OrdI S (x :: r) last cur) {v : Int} (hv : x ≠ v) : doB S ⟨3, 0, 3, 1, v⟩ = none := by
  have e1 : actB S ⟨3, 0, 3, 1, v⟩ = (match (S.core 0).takeE (stA v) with
    | some c' => some ((S.setC 0 c').setW 3 1 v)
    | none => if (S.core 0).locks 3 1 then some (S.setW 3 1 v) else none) := rfl
  have ht : (S.core 0).takeE (stA v) = none := by
    unfold Bc.takeE
    rw [h.buf]
    simp [stA, hv]
  have hl : (S.core 0).locks 3 1 = false := by
    unfold Bc.locks
    have : ((S.core 0).la.kd == 4) = false := by simpa using h.la
    rw [this]; rfl
  rw [do_is ok _ rfl rfl rfl rfl, e1, ht, hl]
  rfl
theorem ord_send_no (ok : S.Ok 6 2 N) {x : Int} {r : List Int} (h : OrdI S (x :: r) last cur) : doB S ⟨13, 0, 3, 1, 0⟩ = none := by
  have e1 : actB S ⟨13, 0, 3, 1, 0⟩ = (match (S.core 0).takeE (flushOf ⟨13, 0, 3, 1, 0⟩) with
    | some c' => some (S.setC 0 (c'.sendE 3 (S.ps.getD 3 0)))
    | none => none) := rfl
  have ht : (S.core 0).takeE (flushOf ⟨13, 0, 3, 1, 0⟩) = none := by
    unfold Bc.takeE
    rw [h.buf]
    simp [stA, flushOf]
  rw [do_is ok _ rfl rfl rfl rfl, e1, ht]
  rfl
theorem ord_store (ok : S.Ok 6 2 N) {x : Int} {r : List Int} (h : OrdI S (x :: r) last cur) : ∃ T, doB S ⟨3, 0, 3, 1, x⟩ = some T ∧ OrdI T r last x := by
  have e1 : actB S ⟨3, 0, 3, 1, x⟩ = (match (S.core 0).takeE (stA x) with
    | some c' => some ((S.setC 0 c').setW 3 1 x)
    | none => if (S.core 0).locks 3 1 then some (S.setW 3 1 x) else none) := rfl
  have ht : (S.core 0).takeE (stA x) = some { S.core 0 with buf := r.map stA, sm := takeSm (S.core 0).sm (3, 1) } := by
    unfold Bc.takeE
    rw [h.buf]
    simp [stA]
  have hsm : takeSm (S.core 0).sm (3, 1) = if r = [] then [] else [((3, 1), ((r.length : Int), last))] := by
    have hne : ¬ (x :: r) = [] := by simp
    have hn := new_none h.sm
    rw [if_neg hne] at hn
    have hs := h.sm
    rw [if_neg hne] at hs
    unfold takeSm
    rw [hn, hs]
    cases r with
    | nil => rfl
    | cons y s =>
      have hq : ¬ (((x :: y :: s).length : Int) - 1 = 0) := by simp; omega
      rw [if_neg hq]
      simp [putA]
  have hcs : 0 < S.cs.length := by rw [ok.cs]; omega
  have cc := core_setC hcs { S.core 0 with buf := r.map stA, sm := takeSm (S.core 0).sm (3, 1) }
  refine ⟨_, by rw [do_is ok _ rfl rfl rfl rfl, e1, ht]; rfl, ?_⟩
  have hl : ((S.setC 0 { S.core 0 with buf := r.map stA, sm := takeSm (S.core 0).sm (3, 1) }).setW 3 1 x).cs.length = 2 := by simp [Bs.setC, Bs.setW, ok.cs]
  have c0 := core_last hl (e := ⟨3, 0, 3, 1, x⟩) (i := 0) rfl (by omega) rfl 0
  have c1 := core_last hl (e := ⟨3, 0, 3, 1, x⟩) (i := 0) rfl (by omega) rfl 1
  have g0 : ∀ k, ((S.setC 0 { S.core 0 with buf := r.map stA, sm := takeSm (S.core 0).sm (3, 1) }).setW 3 1 x).core k = (S.setC 0 { S.core 0 with buf := r.map stA, sm := takeSm (S.core 0).sm (3, 1) }).core k := fun _ => rfl
  rw [if_pos rfl, g0, cc 0, if_pos rfl] at c0
  rw [if_neg (by omega), g0, cc 1, if_neg (by omega)] at c1
  refine ⟨by rw [c0], by rw [c0]; exact hsm, by rw [c0]; exact h.tm, by rw [c0]; exact h.st, by rw [c0]; exact (by decide : ¬ (3 : Int) = 4), by rw [c1]; exact h.s1, by rw [c1]; exact h.t1, ?_⟩
  rw [word_last]
  unfold Bs.word Bs.setW
  have : 3 * 8 + 1 < S.ls.length := by rw [ok.ls]; omega
  rw [List.getD_eq_getElem?_getD]
  show ((S.ls.set (3 * 8 + 1) x)[3 * 8 + 1]?).getD 0 = x
  rw [List.getElem?_set_self this]; rfl
end
theorem ord_start : OrdI (bs0 6 2 1) [] 0 0 := ⟨rfl, rfl, rfl, rfl, by decide, rfl, rfl, rfl⟩
end Go.Proofs.Ytgpmhbkpagfjaaa
