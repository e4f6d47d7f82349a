/- Texts of the walk, one behind the other: Rbm Open Args Bux Buy Nvm Nvmb Lines. No condition. -/
import Derived.Test.YtnocekhgabgffaaOCaa
import Derived.Test.YtnocekhgabgffaaOCab
import Derived.BigQuiet
import Derived.ChangeArms
import Derived.ChangeKeysEq
import Derived.Deep.QuietTactic
import Derived.Deep.RegionHeld3
import Derived.Deep.RegionWith
import Derived.Laws.LoneSync
import Derived.Laws.StructEq
import Derived.Lib.SliceRun
import Derived.Test.YtnocekhgabgffaaChecked
import Derived.WalkKit
import Derived.WideShapes
section
namespace Go.Proofs.Ytnocekhgabgffaa
open Go.RowKit
set_option linter.unusedVariables false
set_option maxHeartbeats 1000000

/-! ### A core of the document's bus; the bus -/
structure Rc where
  L : List Be
  S : List (Int × Int)
  st : Bool
  lk : Bool
  pl : Int × Int
def rcZ : Rc := ⟨[], [], false, false, (0, 0)⟩
structure Rb where
  vol : Nat
  ls : List Int
  ks : List Int
  ps : List Int
  cs : List Rc
def Rb.core (R : Rb) (i : Nat) : Rc := R.cs.getD i rcZ
def Rb.setC (R : Rb) (i : Nat) (c : Rc) : Rb := { R with cs := R.cs.set i c }
def Rb.word (R : Rb) (l o : Nat) : Int := R.ls.getD (l * 8 + o) 0
def Rb.setW (R : Rb) (l o : Nat) (v : Int) : Rb := { R with ls := R.ls.set (l * 8 + o) v }
def zln : List Int := [0, 0, 0, 0, 0, 0, 0, 0]
def Rb.push (R : Rb) (l : Nat) : Rb := { R with ks := lnPut R.ks l (if l < R.vol then zln else ln R.ls l), ps := R.ps.set l (R.ps.getD l 0 + 1) }
def Rb.fail (R : Rb) : Rb := { R with ls := forget R.ks R.vol, cs := List.replicate R.cs.length rcZ }
/-- The stores of a word in a buffer. -/
def atP (l o : Int) (y : Be) : Bool := !y.fl && (decide (y.li = l) && decide (y.wo = o))
def stsAt (l o : Int) (buf : List Be) : List Int := (buf.filter (atP l o)).map Be.va
def ownR (buf : List Be) (l o : Int) : Option Int := (stsAt l o buf).getLast?
def firstR (c : Rc) (x : Be) : Bool := c.L.head? == some x
/-- The first flush of a line that was not answered. -/
def sentI : List (Int × Int) → Int → Option Nat
  | [], _ => none
  | p :: S, l => if p.1 = l then some 0 else (sentI S l).map (· + 1)
theorem sentI_none {l : Int} : ∀ {S : List (Int × Int)}, sentI S l = none → (S.filter fun p => decide (p.1 = l)) = []
  | [], _ => rfl
  | p :: S, h => by
    unfold sentI at h
    split at h
    · cases h
    · rename_i hp
      rw [List.filter_cons, if_neg (by simpa using hp)]
      exact sentI_none (Option.map_eq_none_iff.1 h)
theorem sentI_some {l : Int} : ∀ {S : List (Int × Int)} {k : Nat}, sentI S l = some k → ∃ A p B, S = A ++ (l, p) :: B ∧ A.length = k ∧ ∀ x ∈ A, x.1 ≠ l
  | [], k, h => by cases h
  | q :: S, k, h => by
    unfold sentI at h
    split at h
    · rename_i hq
      cases h
      exact ⟨[], q.2, S, by rw [← hq]; rfl, rfl, by simp⟩
    · rename_i hq
      obtain ⟨j, hj, rfl⟩ := Option.map_eq_some_iff.1 h
      obtain ⟨A, p, B, rfl, rfl, hA⟩ := sentI_some hj
      exact ⟨q :: A, p, B, rfl, rfl, fun x hx => by
        rcases List.mem_cons.1 hx with rfl | hx
        · exact hq
        · exact hA x hx⟩
def calmR (c : Rc) : Bool := c.L.isEmpty && c.S.isEmpty
def mayR (R : Rb) (c : Rc) (e : Ev) : Bool :=
  if e.kd = 2 then ownR c.L e.li e.wo == some e.va
  else if e.kd = 1 then (ownR c.L e.li e.wo).isNone && R.word e.li.toNat e.wo.toNat == e.va
  else if e.kd = 4 then calmR c && R.word e.li.toNat e.wo.toNat == e.va
  else if e.kd = 7 then calmR c
  else if e.kd = 3 then firstR c (storeOf e) || (c.lk && (decide (c.pl.1 = e.li) && decide (c.pl.2 = e.wo)))
  else if e.kd = 13 then firstR c (flushOf e)
  else if e.kd = 6 then (match sentI c.S e.li with | none => false | some k => decide ((c.S.getD k (0, 0)).2 < R.ps.getD e.li.toNat 0))
  else true
def doneC (R : Rb) (c : Rc) (e : Ev) : Rc :=
  if e.kd = 12 then { c with L := c.L ++ [storeOf e] }
  else if e.kd = 14 then { c with L := c.L ++ [flushOf e] }
  else if e.kd = 3 then (if firstR c (storeOf e) then { c with L := c.L.tail } else c)
  else if e.kd = 13 then { c with L := c.L.tail, S := c.S ++ [(e.li, R.ps.getD e.li.toNat 0)] }
  else if e.kd = 6 then (match sentI c.S e.li with | none => c | some k => { c with S := c.S.take k ++ c.S.drop (k + 1) })
  else if e.kd = 9 ∨ e.kd = 10 then { c with st := true }
  else c
def lockC (c : Rc) (e : Ev) : Rc := { c with lk := decide (e.kd = 4), pl := if e.kd = 4 then (e.li, e.wo) else (0, 0) }
def runsR (kd : Int) : Bool := kd != 3 && (kd != 13 && kd != 6)
def doneR (R : Rb) (e : Ev) : Rb :=
  let i := e.co.toNat
  let R' := if e.kd = 3 then R.setW e.li.toNat e.wo.toNat e.va else R
  R'.setC i (lockC (doneC R (R.core i) e) e)
def hasR (R : Rb) (e : Ev) : Bool := kindB e.kd && ((!namesC e.kd || isOfB e.co R.cs.length) && (!namesL e.kd || isOfB e.li R.ps.length) && (!namesW e.kd || isOfB e.wo 8))
def doR (R : Rb) (e : Ev) : Option Rb :=
  if hasR R e then
    (if e.kd = 5 then some (R.push e.li.toNat)
    else if e.kd = 11 then some R.fail
    else if (runsR e.kd && (R.core e.co.toNat).st) || !(mayR R (R.core e.co.toNat) e) then none
    else some (doneR R e))
  else none

/-! ### Both are alike -/
structure SmI (c : Bc) : Prop where
  nd : (c.sm.map (·.1)).Nodup
  at' : ∀ l o, lookA (l, o) c.sm = if stsAt l o c.buf = [] then none else some (((stsAt l o c.buf).length : Int), (stsAt l o c.buf).getLastD 0)
structure CSim0 (c : Bc) (r : Rc) : Prop where
  buf : r.L = c.buf
  sm : SmI c
  nd : (c.tm.map (·.1)).Nodup
  full : Full c
  tm : ∀ l, sentOf c l = (r.S.filter fun p => decide (p.1 = l)).map (·.2)
  st : r.st = c.st
structure CSim (c : Bc) (r : Rc) : Prop extends CSim0 c r where
  lk : r.lk = decide (c.la.kd = 4)
  pl : c.la.kd = 4 → r.pl = (c.la.li, c.la.wo)
structure Sim (n m : Nat) (S : Bs) (R : Rb) : Prop where
  vol : R.vol = S.vol
  ls : R.ls = S.ls
  ks : R.ks = S.ks
  ps : R.ps = S.ps
  lc : R.cs.length = m
  cs : ∀ i, i < m → CSim (S.core i) (R.core i)
  kz : ∀ l, l < S.vol → ln S.ks l = zln
  le : ∀ i, i < m → ∀ l p, (l, p) ∈ (R.core i).S → 0 ≤ l ∧ l < n ∧ p ≤ S.ps.getD l.toNat 0
theorem csim_zero : CSim bcZ rcZ := ⟨⟨rfl, ⟨by simp [bcZ], fun l o => by simp [bcZ, lookA, stsAt]⟩, by simp [bcZ], by simp [Full, bcZ], fun l => by simp [sentOf, bcZ, rcZ, lookA], rfl⟩, rfl, fun h => by simp [bcZ, evZ] at h⟩
theorem CSim.isNone {c : Bc} {r : Rc} (h : CSim c r) (l o : Int) : (ownR r.L l o).isNone = (lookA (l, o) c.sm).isNone := by
  unfold ownR
  rw [h.buf, h.sm.at' l o]
  cases e : stsAt l o c.buf with
  | nil => simp
  | cons x xs => simp
theorem CSim.own {c : Bc} {r : Rc} (h : CSim c r) (l o v : Int) : (ownR r.L l o == some v) = ((lookA (l, o) c.sm).isSome && (newO c.sm (l, o)).2 == v) := by
  unfold ownR newO
  rw [h.buf, h.sm.at' l o]
  cases e : stsAt l o c.buf with
  | nil => simp
  | cons x xs =>
    rw [if_neg (by simp), List.getLast?_eq_some_getLast (by simp)]
    simp [List.getLastD_eq_getLast?, List.getLast?_eq_some_getLast]
theorem CSim.calm {c : Bc} {r : Rc} (h : CSim c r) : calmR r = c.settled := by
  unfold calmR Bc.settled
  rw [h.buf]
  congr 1
  cases e : r.S with
  | nil =>
    cases e2 : c.tm with
    | nil => rfl
    | cons p q =>
      exfalso
      have h1 := h.tm p.1
      rw [e] at h1
      have h2 := h.full p (by rw [e2]; simp)
      apply h2
      have h3 : sentOf c p.1 = p.2 := by unfold sentOf; rw [e2]; simp [lookA]
      rw [← h3, h1]; rfl
  | cons p q =>
    cases e2 : c.tm with
    | nil =>
      exfalso
      have h1 := h.tm p.1
      rw [e] at h1
      have h3 : sentOf c p.1 = [] := by unfold sentOf; rw [e2]; rfl
      rw [h3] at h1
      simp at h1
    | cons _ _ => rfl
theorem CSim.locks {c : Bc} {r : Rc} (h : CSim c r) (l o : Int) : (r.lk && (decide (r.pl.1 = l) && decide (r.pl.2 = o))) = c.locks l o := by
  unfold Bc.locks
  rw [h.lk]
  by_cases hk : c.la.kd = 4
  · rw [h.pl hk]; simp [hk]; rfl
  · simp [hk]
theorem CSim.first {c : Bc} {r : Rc} (h : CSim c r) (x : Be) : firstR r x = (c.takeE x).isSome := by
  unfold firstR Bc.takeE
  rw [h.buf]
  cases c.buf with
  | nil => rfl
  | cons y l =>
    by_cases e : y = x
    · subst e; simp
    · simp [e]
theorem stsAt_app (l o : Int) (a b : List Be) : stsAt l o (a ++ b) = stsAt l o a ++ stsAt l o b := by simp [stsAt]
theorem stsAt_one (l o : Int) (x : Be) : stsAt l o [x] = if atP l o x then [x.va] else [] := by
  unfold stsAt
  cases h : atP l o x <;> simp [h]
theorem stsAt_cons (l o : Int) (x : Be) (xs : List Be) : stsAt l o (x :: xs) = (if atP l o x then [x.va] else []) ++ stsAt l o xs := by
  rw [← stsAt_one]; exact stsAt_app l o [x] xs
theorem lastD_app (xs : List Int) (v : Int) : (xs ++ [v]).getLastD 0 = v := by rw [List.getLastD_eq_getLast?, List.getLast?_concat]; rfl
theorem SmI.put {c : Bc} (h : SmI c) (x : Be) : SmI (c.putE x) := by
  unfold Bc.putE
  by_cases hf : x.fl = true
  · refine ⟨by simp only [hf, if_true]; exact h.nd, fun l o => ?_⟩
    simp only [hf, if_true]
    rw [stsAt_app, stsAt_one, show atP l o x = false by simp [atP, hf], if_neg (by simp : ¬ (false = true)), List.append_nil]
    exact h.at' l o
  · refine ⟨by simp only [hf]; exact keys_put h.nd, fun l o => ?_⟩
    simp only [hf]
    show lookA (l, o) (putA (x.li, x.wo) _ c.sm) = _
    rw [lookA_put, stsAt_app, stsAt_one]
    by_cases hk : (l, o) = (x.li, x.wo)
    · obtain ⟨rfl, rfl⟩ := Prod.mk.inj hk
      rw [if_pos rfl, show atP x.li x.wo x = true by simp [atP, hf], if_pos rfl, if_neg (by simp), lastD_app]
      unfold newO
      rw [h.at' x.li x.wo]
      cases stsAt x.li x.wo c.buf with
      | nil => simp
      | cons y ys => simp
    · have : atP l o x = false := by
        simp only [atP, Bool.and_eq_false_iff, decide_eq_false_iff_not]
        right
        by_cases h1 : x.li = l
        · right; intro h2; exact hk (by rw [h1, h2])
        · left; exact h1
      rw [if_neg hk, this, if_neg (by simp : ¬ (false = true)), List.append_nil]
      exact h.at' l o
theorem SmI.take {c c' : Bc} (h : SmI c) {x : Be} (ht : c.takeE x = some c') : SmI c' ∧ c'.buf = c.buf.tail ∧ c'.tm = c.tm ∧ c'.st = c.st ∧ c'.la = c.la := by
  unfold Bc.takeE at ht
  cases hb : c.buf with
  | nil => rw [hb] at ht; cases ht
  | cons y q =>
    rw [hb] at ht
    simp only at ht
    split at ht
    · rename_i hy
      subst hy
      cases ht
      refine ⟨?_, rfl, rfl, rfl, rfl⟩
      by_cases hf : y.fl = true
      · refine ⟨by simp only [hf, if_true]; exact h.nd, fun l o => ?_⟩
        simp only [hf, if_true]
        rw [h.at' l o, hb, stsAt_cons, show atP l o y = false by simp [atP, hf], if_neg (by simp : ¬ (false = true)), List.nil_append]
      · have hv := h.at' y.li y.wo
        rw [hb, stsAt_cons, show atP y.li y.wo y = true by simp [atP, hf], if_pos rfl, if_neg (by simp)] at hv
        have hn : newO c.sm (y.li, y.wo) = (((y.va :: stsAt y.li y.wo q).length : Int), (y.va :: stsAt y.li y.wo q).getLastD 0) := by
          unfold newO; rw [hv]; rfl
        refine ⟨?_, fun l o => ?_⟩
        · simp only [hf]
          show ((takeSm c.sm (y.li, y.wo)).map (·.1)).Nodup
          unfold takeSm
          split
          · exact keys_drop (keys_put h.nd)
          · exact keys_put h.nd
        · simp only [hf]
          show lookA (l, o) (takeSm c.sm (y.li, y.wo)) = _
          unfold takeSm
          rw [hn]
          by_cases hk : (l, o) = (y.li, y.wo)
          · obtain ⟨rfl, rfl⟩ := Prod.mk.inj hk
            cases hq : stsAt y.li y.wo q with
            | nil =>
              simp only [List.length_cons, List.length_nil]
              rw [if_pos (by omega), lookA_drop _ (keys_put h.nd), if_pos rfl]; simp
            | cons z zs =>
              simp only [List.length_cons]
              rw [if_neg (by omega), lookA_put, if_pos rfl, if_neg (by simp)]
              congr 1
              refine Prod.ext ?_ ?_
              · simp
              · simp
          · have h2 : atP l o y = false := by
              simp only [atP, Bool.and_eq_false_iff, decide_eq_false_iff_not]
              right
              by_cases h1 : y.li = l
              · right; intro h2; exact hk (by rw [h1, h2])
              · left; exact h1
            have h3 := h.at' l o
            rw [hb, stsAt_cons, h2, if_neg (by simp : ¬ (false = true)), List.nil_append] at h3
            split
            · rw [lookA_drop _ (keys_put h.nd), if_neg hk, lookA_put, if_neg hk, h3]
            · rw [lookA_put, if_neg hk, h3]
    · cases ht

theorem CSim0.lock {c : Bc} {r : Rc} (h : CSim0 c r) (e : Ev) : CSim { c with la := e } (lockC r e) :=
  ⟨⟨h.buf, ⟨h.sm.nd, h.sm.at'⟩, h.nd, h.full, h.tm, h.st⟩, rfl, fun hk => by
    show (if e.kd = 4 then (e.li, e.wo) else (0, 0)) = _
    rw [if_pos hk]⟩
theorem CSim0.put {c : Bc} {r : Rc} (h : CSim0 c r) (x : Be) : CSim0 (c.putE x) { r with L := r.L ++ [x] } :=
  ⟨by show r.L ++ [x] = c.buf ++ [x]; rw [h.buf], h.sm.put x, h.nd, h.full, h.tm, h.st⟩
theorem CSim0.take {c c' : Bc} {r : Rc} (h : CSim0 c r) {x : Be} (ht : c.takeE x = some c') : CSim0 c' { r with L := r.L.tail } := by
  obtain ⟨h1, h2, h3, h4, h5⟩ := h.sm.take ht
  refine ⟨by show r.L.tail = c'.buf; rw [h2, h.buf], h1, by rw [h3]; exact h.nd, by unfold Full; rw [h3]; exact h.full, fun l => ?_, by rw [h4]; exact h.st⟩
  rw [← h.tm l]; unfold sentOf; rw [h3]
theorem CSim0.send {c : Bc} {r : Rc} (h : CSim0 c r) (l p : Int) : CSim0 (c.sendE l p) { r with S := r.S ++ [(l, p)] } := by
  refine ⟨h.buf, ⟨h.sm.nd, h.sm.at'⟩, keys_put h.nd, full_send h.full l p, fun l' => ?_, h.st⟩
  rw [sent_send, List.filter_append, List.map_append]
  by_cases hl : l' = l
  · subst hl
    rw [if_pos rfl, h.tm l']
    simp
  · rw [if_neg hl, h.tm l']
    simp [Ne.symm hl]
theorem CSim0.ans {c : Bc} {r : Rc} (h : CSim0 c r) {l : Int} {k : Nat} (hk : sentI r.S l = some k) : CSim0 (c.ansE l) { r with S := r.S.take k ++ r.S.drop (k + 1) } := by
  obtain ⟨A, p, B, hS, hA, hn⟩ := sentI_some hk
  have hd : r.S.take k ++ r.S.drop (k + 1) = A ++ B := by
    rw [hS, ← hA, List.take_left]
    congr 1
    rw [List.drop_append, List.drop_eq_nil_of_le (by omega), List.nil_append, show A.length + 1 - A.length = 1 by omega]
    rfl
  have hfA : (A.filter fun x => decide (x.1 = l)) = [] := List.filter_eq_nil_iff.2 (fun x hx => by simpa using hn x hx)
  have h0 : sentOf c l = p :: ((B.filter fun x => decide (x.1 = l)).map (·.2)) := by
    rw [h.tm l, hS, List.filter_append, hfA]; simp
  refine ⟨h.buf, ⟨h.sm.nd, h.sm.at'⟩, keys_ans h.nd l, full_ans h.full (l := l) (by rw [h0]; simp), fun l' => ?_, h.st⟩
  rw [sent_ans h.nd]
  show _ = ((r.S.take k ++ r.S.drop (k + 1)).filter fun x => decide (x.1 = l')).map (·.2)
  rw [hd, List.filter_append, List.map_append]
  by_cases hl : l' = l
  · subst hl
    rw [if_pos rfl, h0, hfA]; rfl
  · rw [if_neg hl, h.tm l', hS, List.filter_append, List.map_append]
    congr 1
    rw [List.filter_cons, if_neg (by simpa using Ne.symm hl)]
/-- The flush that may be answered. -/
theorem CSim0.may {c : Bc} {r : Rc} (h : CSim0 c r) {l P : Int} (hle : ∀ p, (l, p) ∈ r.S → p ≤ P) : (match sentI r.S l with | none => false | some k => decide ((r.S.getD k (0, 0)).2 < P)) = !decide ((sentOf c l).length = 0 ∨ (sentOf c l).headD 0 = P) := by
  cases hk : sentI r.S l with
  | none =>
    have := sentI_none hk
    rw [h.tm l, this]; rfl
  | some k =>
    obtain ⟨A, p, B, hS, hA, hn⟩ := sentI_some hk
    have hfA : (A.filter fun x => decide (x.1 = l)) = [] := List.filter_eq_nil_iff.2 (fun x hx => by simpa using hn x hx)
    have h0 : sentOf c l = p :: ((B.filter fun x => decide (x.1 = l)).map (·.2)) := by
      rw [h.tm l, hS, List.filter_append, hfA]; simp
    have hp : (r.S.getD k (0, 0)).2 = p := by
      rw [hS, ← hA, List.getD_eq_getElem?_getD, List.getElem?_append_right (Nat.le_refl _), Nat.sub_self]; rfl
    have := hle p (by rw [hS]; simp)
    simp only [hp, h0, List.length_cons, List.headD_cons]
    by_cases e : p = P
    · subst e; simp
    · have : p < P := by omega
      simp [e, this]
theorem rcore_setC {R : Rb} {i : Nat} (h : i < R.cs.length) (c : Rc) (k : Nat) : (R.setC i c).core k = if k = i then c else R.core k := by
  unfold Rb.core Rb.setC
  by_cases e : k = i
  · subst e; rw [if_pos rfl, List.getD_eq_getElem?_getD, List.getElem?_set_self h]; rfl
  · rw [if_neg e, List.getD_eq_getElem?_getD, List.getElem?_set_ne (Ne.symm e), ← List.getD_eq_getElem?_getD]
section
variable {n m N : Nat} {S T : Bs} {R : Rb}
theorem Sim.core (h : Sim n m S R) (hcs : S.cs.length = m) {i : Nat} (hi : i < m) {c : Bc} {r : Rc} (hc : CSim c r) (hS : ∀ l p, (l, p) ∈ r.S → 0 ≤ l ∧ l < n ∧ p ≤ S.ps.getD l.toNat 0) : Sim n m (S.setC i c) (R.setC i r) := by
  refine ⟨h.vol, h.ls, h.ks, h.ps, by simp [Rb.setC, h.lc], fun k hk => ?_, h.kz, fun k hk l p hp => ?_⟩
  · rw [core_setC (by omega), rcore_setC (by have := h.lc; omega)]
    split
    · exact hc
    · exact h.cs k hk
  · rw [rcore_setC (by have := h.lc; omega)] at hp
    split at hp
    · exact hS l p hp
    · exact h.le k hk l p hp
theorem Sim.setW (h : Sim n m S R) (l o : Nat) (v : Int) : Sim n m (S.setW l o v) (R.setW l o v) :=
  ⟨h.vol, by show R.ls.set _ _ = S.ls.set _ _; rw [h.ls], h.ks, h.ps, h.lc, h.cs, h.kz, h.le⟩
theorem lnPut_same {xs : List Int} {l : Nat} {y : List Int} (h : ln xs l = y) (hl : (l + 1) * 8 ≤ xs.length) : lnPut xs l y = xs := by
  subst h
  unfold lnPut splice ln
  have e1 : (List.take 8 (List.drop (l * 8) xs)).length = 8 := by simp; omega
  rw [e1, List.append_assoc]
  have e2 : List.take 8 (List.drop (l * 8) xs) ++ List.drop (l * 8 + 8) xs = List.drop (l * 8) xs := by
    rw [← List.drop_drop, List.take_append_drop]
  rw [e2, List.take_append_drop]
theorem forget_same {xs : List Int} : ∀ {v : Nat}, v * 8 ≤ xs.length → (∀ l, l < v → ln xs l = zln) → forget xs v = xs
  | 0, _, _ => forget_zero xs
  | v + 1, h, hz => by
    have ih := forget_same (xs := xs) (v := v) (by omega) (fun l hl => hz l (by omega))
    rw [← forget_succ xs v h, ih]
    exact lnPut_same (hz v (by omega)) h
theorem Sim.push (ok : S.Ok n m N) (h : Sim n m S R) {l : Nat} (hl : l < n) : Sim n m (S.push l) (R.push l) := by
  have f1 : Fit (l * 8) 8 S.ls.length := by have := ok.ls; unfold Fit; omega
  have f2 : Fit (l * 8) 8 S.ks.length := by have := ok.ks; unfold Fit; omega
  refine ⟨h.vol, h.ls, ?_, by show R.ps.set _ _ = S.ps.set _ _; rw [h.ps], h.lc, h.cs, fun k hk => ?_, fun i hi k p hp => ?_⟩
  · show lnPut R.ks l (if l < R.vol then zln else ln R.ls l) = if S.vol ≤ l then lnPut S.ks l (ln S.ls l) else S.ks
    rw [h.ks, h.vol, h.ls]
    by_cases hv : S.vol ≤ l
    · rw [if_pos hv, if_neg (by omega)]
    · rw [if_neg hv, if_pos (by omega)]
      exact lnPut_same (h.kz l (by omega)) (by have := ok.ks; omega)
  · show ln (if S.vol ≤ l then lnPut S.ks l (ln S.ls l) else S.ks) k = zln
    split
    · rename_i hv
      have : k < S.vol := hk
      rw [ln_put_other _ _ _ _ f2 (ln_length _ _ f1) (by omega)]
      exact h.kz k this
    · exact h.kz k hk
  · obtain ⟨h1, h2, h3⟩ := h.le i hi k p hp
    refine ⟨h1, h2, ?_⟩
    show p ≤ (S.ps.set l (S.ps.getD l 0 + 1)).getD k.toNat 0
    by_cases hk : k.toNat = l
    · rw [hk] at h3 ⊢
      rw [List.getD_eq_getElem?_getD, List.getElem?_set_self (by rw [ok.ps]; exact hl)]
      simp only [Option.getD_some]; omega
    · rw [List.getD_eq_getElem?_getD, List.getElem?_set_ne (Ne.symm hk), ← List.getD_eq_getElem?_getD]; exact h3
theorem rcore_rep (k i : Nat) : ({ R with cs := List.replicate k rcZ } : Rb).core i = rcZ := by
  unfold Rb.core
  rw [List.getD_eq_getElem?_getD]
  simp only [List.getElem?_replicate]
  split <;> rfl
theorem Sim.fail (ok : S.Ok n m N) (h : Sim n m S R) : Sim n m S.fail R.fail := by
  have hv := ok.vol
  refine ⟨h.vol, ?_, h.ks, h.ps, by simp [Rb.fail, h.lc], fun i hi => ?_, h.kz, fun i hi l p hp => ?_⟩
  · show forget R.ks R.vol = S.ks
    rw [h.ks, h.vol]
    exact forget_same (by have := ok.ks; omega) h.kz
  · rw [fail_core]
    show CSim bcZ (({ R with ls := forget R.ks R.vol, cs := List.replicate R.cs.length rcZ } : Rb).core i)
    have : (({ R with ls := forget R.ks R.vol, cs := List.replicate R.cs.length rcZ } : Rb).core i) = rcZ := rcore_rep (R := { R with ls := forget R.ks R.vol }) R.cs.length i
    rw [this]; exact csim_zero
  · have : R.fail.core i = rcZ := rcore_rep (R := { R with ls := forget R.ks R.vol }) R.cs.length i
    rw [this] at hp; cases hp
theorem last_setC {i : Nat} (hi : i < S.cs.length) (c : Bc) {e : Ev} (he : e.co.toNat = i) (hn : namesC e.kd = true) : lastB (S.setC i c) e = S.setC i { c with la := e } := by
  unfold lastB
  rw [if_pos hn]
  unfold Bs.last
  rw [he, core_setC hi, if_pos rfl]
  unfold Bs.setC
  rw [List.set_set]
theorem bsetC_core {i : Nat} (hi : i < S.cs.length) : S.setC i (S.core i) = S := by
  unfold Bs.setC Bs.core
  have : S.cs.set i (S.cs.getD i bcZ) = S.cs := by
    rw [List.getD_eq_getElem?_getD, List.getElem?_eq_getElem hi]
    simp
  rw [this]
/-- Both do alike. -/
def Alike (n m : Nat) : Option Bs → Option Rb → Prop
  | some S, some R => Sim n m S R
  | none, none => True
  | _, _ => False
theorem has_sim (ok : S.Ok n m N) (h : Sim n m S R) (e : Ev) : hasR R e = (kindB e.kd && hasB S e) := by
  unfold hasR hasB
  rw [h.lc, ok.cs, h.ps]

theorem Sim.act (ok : S.Ok n m N) (h : Sim n m S R) {i : Nat} (hi : i < m) {e : Ev} (he : e.co.toNat = i) (hn : namesC e.kd = true) {c : Bc} {r : Rc} (hc : CSim0 c r) (hS : ∀ l p, (l, p) ∈ r.S → 0 ≤ l ∧ l < n ∧ p ≤ S.ps.getD l.toNat 0) : Sim n m (lastB (S.setC i c) e) (R.setC i (lockC r e)) := by
  have hcs := ok.cs
  rw [last_setC (by omega) c he hn]
  exact h.core hcs hi (hc.lock e) hS
theorem Sim.stay (ok : S.Ok n m N) (h : Sim n m S R) {i : Nat} (hi : i < m) {e : Ev} (he : e.co.toNat = i) (hn : namesC e.kd = true) : Sim n m (lastB S e) (R.setC i (lockC (R.core i) e)) := by
  have hcs := ok.cs
  have := h.act ok hi he hn (h.cs i hi).toCSim0 (h.le i hi)
  rwa [bsetC_core (by omega)] at this
theorem alike_map {p q : Bool} {U : Bs} {V : Rb} {e : Ev} (hpq : q = !p) (hs : p = true → Sim n m (lastB U e) V) : Alike n m (Option.map (fun T => lastB T e) (if p then some U else none)) (if q then none else some V) := by
  subst hpq
  cases p
  · trivial
  · exact hs rfl
theorem sim_do (ok : S.Ok n m N) (h : Sim n m S R) (e : Ev) : Alike n m (doB S e) (doR R e) := by
  unfold doB doR
  rw [has_sim ok h]
  cases hb : (kindB e.kd && hasB S e) with
  | false => trivial
  | true =>
    simp only [if_true]
    simp only [Bool.and_eq_true] at hb
    obtain ⟨hk, hh⟩ := hb
    have hkd : e.kd = 1 ∨ e.kd = 2 ∨ e.kd = 3 ∨ e.kd = 4 ∨ e.kd = 5 ∨ e.kd = 6 ∨ e.kd = 7 ∨ e.kd = 8 ∨ e.kd = 9 ∨ e.kd = 10 ∨ e.kd = 11 ∨ e.kd = 12 ∨ e.kd = 13 ∨ e.kd = 14 := by
      unfold kindB at hk
      have : 1 ≤ e.kd ∧ e.kd ≤ 14 := by simpa using hk
      omega
    unfold hasB at hh
    simp only [ok.cs, ok.ps, Bool.and_eq_true, Bool.or_eq_true, Bool.not_eq_true'] at hh
    obtain ⟨⟨hC, hL⟩, hW⟩ := hh
    have bC : namesC e.kd = true → e.co.toNat < m := fun hn => by
      rcases hC with hC | hC
      · rw [hC] at hn; cases hn
      · unfold isOfB at hC; simp at hC; omega
    have bL : namesL e.kd = true → 0 ≤ e.li ∧ e.li < n := fun hn => by
      rcases hL with hL | hL
      · rw [hL] at hn; cases hn
      · unfold isOfB at hL; simp at hL; omega
    have hcs := ok.cs
    have hw : ∀ l o, R.word l o = S.word l o := fun l o => by unfold Rb.word Bs.word; rw [h.ls]
    clear hC hL hW hk
    obtain ⟨kd, co, li, wo, va⟩ := e
    simp only at hkd bC bL ⊢
    have he : (⟨kd, co, li, wo, va⟩ : Ev).co.toNat = co.toNat := rfl
    rcases hkd with rfl | rfl | rfl | rfl | rfl | rfl | rfl | rfl | rfl | rfl | rfl | rfl | rfl | rfl
    · have hi := bC rfl
      have hc := h.cs _ hi
      show Alike n m (Option.map (fun T => lastB T ⟨1, co, li, wo, va⟩) (if !(S.core co.toNat).st && ((lookA (li, wo) (S.core co.toNat).sm).isNone && S.word li.toNat wo.toNat == va) then some S else none)) (if (true && (R.core co.toNat).st) || !((ownR (R.core co.toNat).L li wo).isNone && R.word li.toNat wo.toNat == va) then none else some (R.setC co.toNat (lockC (R.core co.toNat) ⟨1, co, li, wo, va⟩)))
      exact alike_map (by rw [hc.st, hc.isNone, hw]; cases (S.core co.toNat).st <;> simp) (fun _ => h.stay ok hi rfl rfl)
    · have hi := bC rfl
      have hc := h.cs _ hi
      show Alike n m (Option.map (fun T => lastB T ⟨2, co, li, wo, va⟩) (if !(S.core co.toNat).st && ((lookA (li, wo) (S.core co.toNat).sm).isSome && (newO (S.core co.toNat).sm (li, wo)).2 == va) then some S else none)) (if (true && (R.core co.toNat).st) || !(ownR (R.core co.toNat).L li wo == some va) then none else some (R.setC co.toNat (lockC (R.core co.toNat) ⟨2, co, li, wo, va⟩)))
      exact alike_map (by rw [hc.st, hc.own]; cases (S.core co.toNat).st <;> simp) (fun _ => h.stay ok hi rfl rfl)
    · have hi := bC rfl
      have hc := h.cs _ hi
      have hf := hc.first (storeOf ⟨3, co, li, wo, va⟩)
      have hl := hc.locks li wo
      show Alike n m (Option.map (fun T => lastB T ⟨3, co, li, wo, va⟩) (match (S.core co.toNat).takeE (storeOf ⟨3, co, li, wo, va⟩) with
        | some c' => some ((S.setC co.toNat c').setW li.toNat wo.toNat va)
        | none => if (S.core co.toNat).locks li wo then some (S.setW li.toNat wo.toNat va) else none)) (if (false && (R.core co.toNat).st) || !(firstR (R.core co.toNat) (storeOf ⟨3, co, li, wo, va⟩) || ((R.core co.toNat).lk && (decide ((R.core co.toNat).pl.1 = li) && decide ((R.core co.toNat).pl.2 = wo)))) then none else some ((R.setW li.toNat wo.toNat va).setC co.toNat (lockC (if firstR (R.core co.toNat) (storeOf ⟨3, co, li, wo, va⟩) then { R.core co.toNat with L := (R.core co.toNat).L.tail } else R.core co.toNat) ⟨3, co, li, wo, va⟩)))
      rw [hf, hl]
      have okW := ok.setW li.toNat wo.toNat va
      have hW' := h.setW li.toNat wo.toNat va
      cases ht : (S.core co.toNat).takeE (storeOf ⟨3, co, li, wo, va⟩) with
      | some c' => exact hW'.act okW hi (e := ⟨3, co, li, wo, va⟩) rfl rfl (hc.toCSim0.take ht) (h.le _ hi)
      | none =>
        cases (S.core co.toNat).locks li wo
        · trivial
        · exact hW'.stay okW hi (e := ⟨3, co, li, wo, va⟩) rfl rfl
    · have hi := bC rfl
      have hc := h.cs _ hi
      show Alike n m (Option.map (fun T => lastB T ⟨4, co, li, wo, va⟩) (if (!(S.core co.toNat).st && (S.core co.toNat).settled) && S.word li.toNat wo.toNat == va then some S else none)) (if (true && (R.core co.toNat).st) || !(calmR (R.core co.toNat) && R.word li.toNat wo.toNat == va) then none else some (R.setC co.toNat (lockC (R.core co.toNat) ⟨4, co, li, wo, va⟩)))
      exact alike_map (by rw [hc.st, hc.calm, hw]; cases (S.core co.toNat).st <;> simp) (fun _ => h.stay ok hi rfl rfl)
    · exact h.push ok (l := li.toNat) (by have := bL rfl; omega)
    · have hi := bC rfl
      have hc := h.cs _ hi
      have hl := bL rfl
      have hm := hc.may (l := li) (P := R.ps.getD li.toNat 0) (fun p hp => by rw [h.ps]; exact (h.le _ hi li p hp).2.2)
      show Alike n m (Option.map (fun T => lastB T ⟨6, co, li, wo, va⟩) (if (sentOf (S.core co.toNat) li).length = 0 ∨ (sentOf (S.core co.toNat) li).headD 0 = S.ps.getD li.toNat 0 then none else some (S.setC co.toNat ((S.core co.toNat).ansE li)))) (if (false && (R.core co.toNat).st) || !(match sentI (R.core co.toNat).S li with | none => false | some k => decide (((R.core co.toNat).S.getD k (0, 0)).2 < R.ps.getD li.toNat 0)) then none else some (R.setC co.toNat (lockC (match sentI (R.core co.toNat).S li with | none => R.core co.toNat | some k => { R.core co.toNat with S := (R.core co.toNat).S.take k ++ (R.core co.toNat).S.drop (k + 1) }) ⟨6, co, li, wo, va⟩)))
      rw [hm, h.ps]
      by_cases hp : (sentOf (S.core co.toNat) li).length = 0 ∨ (sentOf (S.core co.toNat) li).headD 0 = S.ps.getD li.toNat 0
      · rw [if_pos hp]
        simp only [hp, decide_true]
        trivial
      · rw [if_neg hp]
        simp only [hp, decide_false]
        cases hs : sentI (R.core co.toNat).S li with
        | none =>
          exfalso
          apply hp
          left
          rw [hc.tm li, sentI_none hs]; rfl
        | some k =>
          refine h.act ok hi (e := ⟨6, co, li, wo, va⟩) rfl rfl (hc.toCSim0.ans hs) (fun l p hp => h.le _ hi l p ?_)
          rcases List.mem_append.1 hp with hp | hp
          · exact List.mem_of_mem_take hp
          · exact List.mem_of_mem_drop hp
    · have hi := bC rfl
      have hc := h.cs _ hi
      show Alike n m (Option.map (fun T => lastB T ⟨7, co, li, wo, va⟩) (if !(S.core co.toNat).st && (S.core co.toNat).settled then some S else none)) (if (true && (R.core co.toNat).st) || !(calmR (R.core co.toNat)) then none else some (R.setC co.toNat (lockC (R.core co.toNat) ⟨7, co, li, wo, va⟩)))
      exact alike_map (by rw [hc.st, hc.calm]; cases (S.core co.toNat).st <;> simp) (fun _ => h.stay ok hi rfl rfl)
    · have hi := bC rfl
      have hc := h.cs _ hi
      show Alike n m (Option.map (fun T => lastB T ⟨8, co, li, wo, va⟩) (if !(S.core co.toNat).st then some S else none)) (if (true && (R.core co.toNat).st) || !true then none else some (R.setC co.toNat (lockC (R.core co.toNat) ⟨8, co, li, wo, va⟩)))
      exact alike_map (by rw [hc.st]; cases (S.core co.toNat).st <;> simp) (fun _ => h.stay ok hi rfl rfl)
    · have hi := bC rfl
      have hc := h.cs _ hi
      show Alike n m (Option.map (fun T => lastB T ⟨9, co, li, wo, va⟩) (if !(S.core co.toNat).st then some (S.setC co.toNat { S.core co.toNat with st := true }) else none)) (if (true && (R.core co.toNat).st) || !true then none else some (R.setC co.toNat (lockC { R.core co.toNat with st := true } ⟨9, co, li, wo, va⟩)))
      exact alike_map (by rw [hc.st]; cases (S.core co.toNat).st <;> simp) (fun _ => h.act ok hi rfl rfl ⟨hc.buf, ⟨hc.sm.nd, hc.sm.at'⟩, hc.nd, hc.full, hc.tm, rfl⟩ (h.le _ hi))
    · have hi := bC rfl
      have hc := h.cs _ hi
      show Alike n m (Option.map (fun T => lastB T ⟨10, co, li, wo, va⟩) (if !(S.core co.toNat).st then some (S.setC co.toNat { S.core co.toNat with st := true }) else none)) (if (true && (R.core co.toNat).st) || !true then none else some (R.setC co.toNat (lockC { R.core co.toNat with st := true } ⟨10, co, li, wo, va⟩)))
      exact alike_map (by rw [hc.st]; cases (S.core co.toNat).st <;> simp) (fun _ => h.act ok hi rfl rfl ⟨hc.buf, ⟨hc.sm.nd, hc.sm.at'⟩, hc.nd, hc.full, hc.tm, rfl⟩ (h.le _ hi))
    · exact h.fail ok
    · have hi := bC rfl
      have hc := h.cs _ hi
      show Alike n m (Option.map (fun T => lastB T ⟨12, co, li, wo, va⟩) (if !(S.core co.toNat).st then some (S.setC co.toNat ((S.core co.toNat).putE (storeOf ⟨12, co, li, wo, va⟩))) else none)) (if (true && (R.core co.toNat).st) || !true then none else some (R.setC co.toNat (lockC { R.core co.toNat with L := (R.core co.toNat).L ++ [storeOf ⟨12, co, li, wo, va⟩] } ⟨12, co, li, wo, va⟩)))
      exact alike_map (by rw [hc.st]; cases (S.core co.toNat).st <;> simp) (fun _ => h.act ok hi rfl rfl (hc.toCSim0.put _) (h.le _ hi))
    · have hi := bC rfl
      have hc := h.cs _ hi
      have hl := bL rfl
      have hf := hc.first (flushOf ⟨13, co, li, wo, va⟩)
      show Alike n m (Option.map (fun T => lastB T ⟨13, co, li, wo, va⟩) (match (S.core co.toNat).takeE (flushOf ⟨13, co, li, wo, va⟩) with
        | some c' => some (S.setC co.toNat (c'.sendE li (S.ps.getD li.toNat 0)))
        | none => none)) (if (false && (R.core co.toNat).st) || !(firstR (R.core co.toNat) (flushOf ⟨13, co, li, wo, va⟩)) then none else some (R.setC co.toNat (lockC { R.core co.toNat with L := (R.core co.toNat).L.tail, S := (R.core co.toNat).S ++ [(li, R.ps.getD li.toNat 0)] } ⟨13, co, li, wo, va⟩)))
      rw [hf]
      cases ht : (S.core co.toNat).takeE (flushOf ⟨13, co, li, wo, va⟩) with
      | none => trivial
      | some c' =>
        rw [h.ps]
        refine h.act ok hi (e := ⟨13, co, li, wo, va⟩) rfl rfl ((hc.toCSim0.take ht).send li (S.ps.getD li.toNat 0)) (fun l p hp => ?_)
        rcases List.mem_append.1 hp with hp | hp
        · exact h.le _ hi l p hp
        · simp only [List.mem_singleton, Prod.mk.injEq] at hp
          obtain ⟨rfl, rfl⟩ := hp
          exact ⟨hl.1, hl.2, Int.le_refl _⟩
    · have hi := bC rfl
      have hc := h.cs _ hi
      show Alike n m (Option.map (fun T => lastB T ⟨14, co, li, wo, va⟩) (if !(S.core co.toNat).st then some (S.setC co.toNat ((S.core co.toNat).putE (flushOf ⟨14, co, li, wo, va⟩))) else none)) (if (true && (R.core co.toNat).st) || !true then none else some (R.setC co.toNat (lockC { R.core co.toNat with L := (R.core co.toNat).L ++ [flushOf ⟨14, co, li, wo, va⟩] } ⟨14, co, li, wo, va⟩)))
      exact alike_map (by rw [hc.st]; cases (S.core co.toNat).st <;> simp) (fun _ => h.act ok hi rfl rfl (hc.toCSim0.put _) (h.le _ hi))
/-! ### Runs -/
def trialB (S : Bs) : List Ev → Nat × Bs
  | [] => (0, S)
  | e :: l => match doB S e with
    | none => (0, S)
    | some T => ((trialB T l).1 + 1, (trialB T l).2)
theorem trialB_le : ∀ (l : List Ev) (S : Bs), (trialB S l).1 ≤ l.length
  | [], S => Nat.le_refl _
  | e :: l, S => by
    unfold trialB
    cases doB S e with
    | none => exact Nat.zero_le _
    | some T => have := trialB_le l T; simp; omega
theorem trialB_stop {S : Bs} {e : Ev} {l : List Ev} (h : doB S e = none) : trialB S (e :: l) = (0, S) := by show (match doB S e with | none => (0, S) | some T => ((trialB T l).1 + 1, (trialB T l).2)) = _; rw [h]
theorem trialB_go {S T : Bs} {e : Ev} {l : List Ev} (h : doB S e = some T) : trialB S (e :: l) = ((trialB T l).1 + 1, (trialB T l).2) := by show (match doB S e with | none => (0, S) | some T => ((trialB T l).1 + 1, (trialB T l).2)) = _; rw [h]
theorem trialB_ok : ∀ (l : List Ev) {S : Bs} {N : Nat}, S.Ok n m N → (trialB S l).2.Ok n m (N + (trialB S l).1)
  | [], S, N, h => h
  | e :: l, S, N, h => by
    cases hd : doB S e with
    | none => rw [trialB_stop hd]; exact h
    | some T =>
      have h1 := do_ok h e
      rw [hd] at h1
      have := trialB_ok l (show T.Ok n m (N + 1) from h1)
      rw [trialB_go hd]
      have e1 : N + ((trialB T l).1 + 1) = N + 1 + (trialB T l).1 := by omega
      rw [e1]; exact this
end
end Go.Proofs.Ytnocekhgabgffaa
end
section
namespace Go.Proofs.Ytnocekhgabgffaa
open Go.ChangeShapes Go.WideShapes Go.ChangeAt Go.RowKit

section
variable {H : Type} {enc : TypeId × Value → H} {P : Program} {w : World} {base base' : Nat} {spare : Nat → Bool} {held : Bool}

theorem ints_of_cells {k : IntKind} : ∀ (cs : List Value), (∀ i, i < cs.length → ∃ m, cs[i]? = some (.int k m) ∧ (Lit.int k m).wf = true) → ∃ ns : List Int, cs = ns.map (Value.int k) ∧ ∀ x ∈ ns, (Lit.int k x).wf = true
  | [], _ => ⟨[], rfl, by simp⟩
  | c :: cs, h => by
    obtain ⟨m, h0, hw⟩ := h 0 (by simp)
    obtain ⟨ns, e, hn⟩ := ints_of_cells cs (fun i hi => by have := h (i + 1) (by simpa using hi); simpa using this)
    simp at h0
    subst h0; subst e
    exact ⟨m :: ns, rfl, by simpa [hw] using hn⟩

end

end Go.Proofs.Ytnocekhgabgffaa
end
section
namespace Go.Proofs.Ytnocekhgabgffaa
open Go.ChangeShapes Go.WideShapes Go.ChangeAt Go.RowKit
set_option linter.unusedVariables false

/-- What a cell holds. -/
inductive Kd where
  | int (k : IntKind)
  | bool
  | str
  | slice (e : List Kd)

/-- The fields one behind the other. -/
def kindsFields (P : Program) (K : TypeId → Option (List Kd)) : List Field → Nat → Option (List Kd)
  | [], _ => some []
  | f :: fs, off => match K f.type with
    | some ks => if f.offset = off ∧ P.cellsOf f.type = ks.length then (kindsFields P K fs (off + ks.length)).map (ks ++ ·) else none
    | none => none
/-- The kinds of a type's cells. -/
def kinds (P : Program) : Nat → TypeId → Option (List Kd)
  | 0, _ => none
  | d + 1, t => match P.underlying t with
    | some (.int k) => some [.int k]
    | some .bool => some [.bool]
    | some .string => some [.str]
    | some (.slice e) => match kinds P d e with
      | some ks => if P.cellsOf e = ks.length ∧ 0 < ks.length then some [.slice ks] else none
      | none => none
    | some (.array n e) => match kinds P d e with
      | some ks => if P.cellsOf e = ks.length ∧ P.cellsOf t = n * ks.length then some (List.replicate n ks).flatten else none
      | none => none
    | some (.struct fs) => match kindsFields P (kinds P d) fs.toList 0 with
      | some ks => if P.cellsOf t = ks.length then some ks else none
      | none => none
    | _ => none

/-- A cell of that kind; what a slice of them has, too. -/
def IsKd (w : World) : Kd → Value → Prop
  | .int k, v => ∃ n, v = .int k n ∧ (Lit.int k n).wf = true
  | .bool, v => ∃ b, v = .bool b
  | .str, v => ∃ s, v = .string s ∧ s.size ≤ maxLen
  | .slice ks, v => ∃ A n c xs, v = .slice A n c ∧ n ≤ c ∧ c ≤ maxLen ∧ Sl w ks.length A n xs ∧ (A = none → c = 0) ∧
      ∀ i, i < n → ∀ (j : Nat) (h : j < ks.length), ∃ u, xs[i * ks.length + j]? = some u ∧ IsKd w ks[j] u
  termination_by k _ => SizeOf.sizeOf k
  decreasing_by
    have := List.sizeOf_lt_of_mem (List.getElem_mem h)
    simp only [Kd.slice.sizeOf_spec]
    omega
/-- Cells of these kinds. -/
def AreKd (w : World) (ks : List Kd) (cs : List Value) : Prop := cs.length = ks.length ∧ ∀ (j : Nat) (kd : Kd), ks[j]? = some kd → ∃ v, cs[j]? = some v ∧ IsKd w kd v

theorem AreKd.append {w : World} {ks ks' : List Kd} {cs cs' : List Value} (h : AreKd w ks cs) (h' : AreKd w ks' cs') : AreKd w (ks ++ ks') (cs ++ cs') := by
  refine ⟨by simp [h.1, h'.1], fun j kd hj => ?_⟩
  by_cases hlt : j < ks.length
  · rw [List.getElem?_append_left hlt] at hj
    rw [List.getElem?_append_left (by rw [h.1]; exact hlt)]
    exact h.2 j kd hj
  · rw [List.getElem?_append_right (by omega)] at hj
    rw [List.getElem?_append_right (by rw [h.1]; omega), h.1]
    exact h'.2 _ kd hj

section
variable {H : Type} {enc : TypeId × Value → H} {P : Program} {w : World} {base : Nat} {spare : Nat → Bool} {held : Bool}

theorem trod_bool' {t : TypeId} {m : Nat} {cs : List Value} {x : DataW H × List MemPlace} (hu : P.underlying t = some .bool) (h : DataW.trod enc P w base spare held m t cs = some x) : ∃ b, cs = [.bool b] := by
  cases m with
  | zero => simp [DataW.trod] at h
  | succ m =>
    unfold DataW.trod at h
    rw [hu] at h
    split at h <;> simp_all
theorem trod_str' {t : TypeId} {m : Nat} {cs : List Value} {x : DataW H × List MemPlace} (hu : P.underlying t = some .string) (h : DataW.trod enc P w base spare held m t cs = some x) : ∃ s, cs = [.string s] ∧ s.size ≤ maxLen := by
  cases m with
  | zero => simp [DataW.trod] at h
  | succ m =>
    unfold DataW.trod at h
    rw [hu] at h
    split at h <;> simp_all
theorem cells_at {a : Addr} {n : Nat} {cs : List Value} (h : w.cells? base a n = some cs) : cs.length = n ∧ ∀ i, i < n → w.cell? (a.add i) = cs[i]? :=
  let ⟨_, h1, h2⟩ := World.cells?_some h; ⟨h1, h2⟩

theorem kinds_fields {m : Nat} {K : TypeId → Option (List Kd)}
    (ih : ∀ (t : TypeId) (ks : List Kd), K t = some ks → ∀ (cs : List Value) (x : DataW H × List MemPlace), DataW.trod enc P w base spare held m t cs = some x → AreKd w ks cs) :
    ∀ (fs : List Field) (off : Nat) (ks : List Kd) (cs : List Value), kindsFields P K fs off = some ks → cs.length = off + ks.length →
      (∀ f ∈ fs, ∃ x, DataW.trod enc P w base spare held m f.type ((cs.drop f.offset).take (P.cellsOf f.type)) = some x) → AreKd w ks (cs.drop off)
  | [], off, ks, cs, hk, hl, _ => by
    simp [kindsFields] at hk; subst hk
    exact ⟨by simp at hl ⊢; omega, by simp⟩
  | f :: fs, off, ks, cs, hk, hl, hf => by
    simp only [kindsFields] at hk
    split at hk
    · rename_i k0 hK
      split at hk
      · rename_i hc
        obtain ⟨h1, h2⟩ := hc
        obtain ⟨k1, hk1, rfl⟩ := Option.map_eq_some_iff.1 hk
        obtain ⟨x, hx⟩ := hf f (by simp)
        rw [h1, h2] at hx
        have a1 := ih _ _ hK _ _ hx
        have a2 := kinds_fields ih fs (off + k0.length) k1 cs hk1 (by simp at hl; omega) (fun g hg => hf g (by simp [hg]))
        have e : cs.drop off = (cs.drop off).take k0.length ++ cs.drop (off + k0.length) := by
          rw [← List.drop_drop, List.take_append_drop]
        rw [e]
        exact a1.append a2
      · cases hk
    · cases hk

theorem are_rows {m : Nat} {e : TypeId} {k0 : List Kd} (hce : P.cellsOf e = k0.length)
    (ih : ∀ (cs : List Value) (x : DataW H × List MemPlace), DataW.trod enc P w base spare held m e cs = some x → AreKd w k0 cs) :
    ∀ (n : Nat) (cs : List Value), cs.length = n * k0.length → (∀ i, i < n → ∃ x, DataW.trod enc P w base spare held m e ((cs.drop (i * k0.length)).take k0.length) = some x) → AreKd w (List.replicate n k0).flatten cs
  | 0, cs, hl, _ => by
    have : cs = [] := List.eq_nil_of_length_eq_zero (by simpa using hl)
    subst this; exact ⟨by simp, by simp⟩
  | n + 1, cs, hl, hf => by
    rw [List.replicate_succ, List.flatten_cons]
    have e : cs = cs.take k0.length ++ cs.drop k0.length := (List.take_append_drop _ _).symm
    rw [e]
    obtain ⟨x, hx⟩ := hf 0 (by omega)
    simp only [Nat.zero_mul, List.drop_zero] at hx
    refine (ih _ _ hx).append (are_rows hce ih n _ (by rw [List.length_drop, hl, Nat.add_mul]; omega) fun i hi => ?_)
    obtain ⟨y, hy⟩ := hf (i + 1) (by omega)
    rw [List.drop_drop]
    rw [show k0.length + i * k0.length = (i + 1) * k0.length by rw [Nat.add_mul]; omega]
    exact ⟨y, hy⟩

theorem trod_kinds : ∀ (d : Nat) (t : TypeId) (ks : List Kd), kinds P d t = some ks → ∀ (m : Nat) (cs : List Value) (x : DataW H × List MemPlace), DataW.trod enc P w base spare held m t cs = some x → AreKd w ks cs
  | 0, t, ks, hk, _, _, _, _ => by simp [kinds] at hk
  | d + 1, t, ks, hk, m, cs, x, hx => by
    simp only [kinds] at hk
    split at hk
    · rename_i k hu
      injection hk with hk; subst hk
      obtain ⟨n, rfl, _, hw⟩ := DataW.trod_int hu hx
      refine ⟨rfl, fun j kd hj => ?_⟩
      match j, hj with
      | 0, hj => simp at hj; subst hj; exact ⟨_, rfl, by rw [IsKd]; exact ⟨n, rfl, hw⟩⟩
    · rename_i hu
      injection hk with hk; subst hk
      obtain ⟨b, rfl⟩ := trod_bool' hu hx
      refine ⟨rfl, fun j kd hj => ?_⟩
      match j, hj with
      | 0, hj => simp at hj; subst hj; exact ⟨_, rfl, by rw [IsKd]; exact ⟨b, rfl⟩⟩
    · rename_i hu
      injection hk with hk; subst hk
      obtain ⟨s, rfl, hs⟩ := trod_str' hu hx
      refine ⟨rfl, fun j kd hj => ?_⟩
      match j, hj with
      | 0, hj => simp at hj; subst hj; exact ⟨_, rfl, by rw [IsKd]; exact ⟨s, rfl, hs⟩⟩
    · rename_i e hu
      split at hk
      · rename_i k0 hk0
        split at hk
        · rename_i hc
          obtain ⟨hce, hpos⟩ := hc
          injection hk with hk; subst hk
          have hS : ∃ v, cs = [v] ∧ IsKd w (.slice k0) v := by
            simp only [IsKd]
            rcases DataW.trod_slice hu hx with ⟨rfl, _⟩ | ⟨a, len, cap, elems, rest, n, _, rfl, _, hb, hl, hm, hlen, hel, _, _⟩
            · exact ⟨_, rfl, none, 0, 0, [], rfl, Nat.le_refl _, by simp [maxLen], ⟨by simp, .inl rfl⟩, fun _ => rfl, fun i hi => by omega⟩
            · refine ⟨_, rfl, ?_⟩
              rw [hce] at hel
              have each : ∀ i, i < len → ∃ cs', cs'.length = k0.length ∧ (∀ j, j < k0.length → w.cell? ((a.add (i * k0.length)).add j) = cs'[j]?) ∧ AreKd w k0 cs' := fun i hi => by
                have h1 := hel i hi
                have h2 : i < elems.length := by omega
                rw [List.getElem?_eq_getElem h2, Option.bind_eq_some_iff] at h1
                obtain ⟨cs', h3, h4⟩ := h1
                obtain ⟨h5, h6⟩ := cells_at h3
                exact ⟨cs', h5, h6, trod_kinds d e k0 hk0 n cs' _ h4⟩
              rcases Nat.eq_zero_or_pos len with h0 | h0
              · subst h0
                exact ⟨some a, 0, cap, [], rfl, hl, hm, ⟨by simp, .inl rfl⟩, by simp, fun i hi => by omega⟩
              · -- the block
                obtain ⟨c0, hc0, hcell0, _⟩ := each 0 h0
                have hz := hcell0 0 hpos
                have hlt0 : 0 < c0.length := by omega
                rw [List.getElem?_eq_getElem hlt0] at hz
                have hspot : a.spot = none ∧ ∃ c t f, w.heap[a.block]? = some (.cells c t f) := by
                  have : ((a.add (0 * k0.length)).add 0).block = a.block := by simp [Addr.add]
                  unfold World.cell? at hz
                  split at hz
                  · rename_i c t f hh
                    split at hz
                    · cases hz
                    · rename_i hs
                      refine ⟨?_, c, t, f, ?_⟩
                      · revert hs; simp [Addr.add]
                      · rw [← hh]; simp [Addr.add]
                  · cases hz
                obtain ⟨hsp, c, t', f, hh⟩ := hspot
                obtain ⟨b, o, sp⟩ := a
                simp only at hsp hh
                subst hsp
                have cellat : ∀ i, i < len → ∀ j, j < k0.length → ∃ v, c[o + (i * k0.length + j)]? = some v := fun i hi j hj => by
                  obtain ⟨c1, hc1, hcell1, _⟩ := each i hi
                  have := hcell1 j hj
                  rw [Addr.add_mid, Addr.add_mid, cell_row, hh, rowCell_some, List.getElem?_eq_getElem (by omega)] at this
                  rw [Nat.add_assoc] at this
                  exact ⟨_, this⟩
                have hfit : o + len * k0.length ≤ c.size := by
                  obtain ⟨v, hv⟩ := cellat (len - 1) (by omega) (k0.length - 1) (by omega)
                  have := (Array.getElem?_eq_some_iff.1 hv).1
                  have e1 : (len - 1) * k0.length + k0.length = len * k0.length := by
                    rw [← Nat.succ_mul]; congr 1; omega
                  omega
                refine ⟨some ⟨b, o, none⟩, len, cap, (c.toList.drop o).take (len * k0.length), rfl, hl, hm, ⟨by simp; omega, .inr ⟨b, o, c, t', f, rfl, hh, rfl⟩⟩, by simp, fun i hi j hjlt => ?_⟩
                obtain ⟨c1, hc1, hcell1, hk1⟩ := each i hi
                obtain ⟨v, hv, hkd⟩ := hk1.2 j k0[j] (List.getElem?_eq_getElem hjlt)
                refine ⟨v, ?_, hkd⟩
                have hlt : i * k0.length + j < len * k0.length := by
                  have : (i + 1) * k0.length ≤ len * k0.length := Nat.mul_le_mul_right _ (by omega)
                  rw [Nat.add_mul] at this
                  omega
                rw [List.getElem?_take_of_lt hlt, List.getElem?_drop]
                have h7 := hcell1 j hjlt
                rw [Addr.add_mid, Addr.add_mid, cell_row, hh, rowCell_some, hv] at h7
                rw [← h7, Array.getElem?_toList, Nat.add_assoc]
          obtain ⟨v, rfl, hv⟩ := hS
          refine ⟨rfl, fun j kd hj => ?_⟩
          match j, hj with
          | 0, hj => simp at hj; subst hj; exact ⟨_, rfl, hv⟩
        · cases hk
      · cases hk
    · rename_i n e hu
      split at hk
      · rename_i k0 hk0
        split at hk
        · rename_i hc
          injection hk with hk; subst hk
          obtain ⟨xs, q, _, _, hl, hxl, hel⟩ := DataW.trod_array hu hx
          refine (are_rows hc.1 (fun cs x h => trod_kinds d e k0 hk0 q cs x h) n cs (by rw [hl, hc.2]) fun i hi => ?_)
          have := hel i hi
          rw [hc.1, List.getElem?_eq_getElem (by omega)] at this
          exact ⟨_, this⟩
        · cases hk
      · cases hk
    · rename_i fs hu
      split at hk
      · rename_i k0 hk0
        split at hk
        · rename_i hc
          injection hk with hk; subst hk
          obtain ⟨xs, q, _, _, hl, hxl, hel⟩ := DataW.trod_struct hu hx
          have := kinds_fields (m := q) (K := kinds P d) (fun t ks h cs x hx => trod_kinds d t ks h q cs x hx) fs.toList 0 k0 cs hk0 (by rw [hl, hc]; omega) (fun f hf => by
            obtain ⟨i, hi, he⟩ := List.getElem_of_mem hf
            have hfi : fs[i]? = some f := by rw [← he]; simp at hi ⊢
            have := hel i f hfi
            have hlt : i < xs.length := by rw [hxl]; exact (Array.getElem?_eq_some_iff.1 hfi).1
            rw [List.getElem?_eq_getElem hlt] at this
            exact ⟨_, this⟩)
          rw [List.drop_zero] at this
          exact this
        · cases hk
      · cases hk
    · cases hk
/-- An argument that is an array or a struct. -/
theorem open_row {r : Reach} {b0 : Nat} {t : TypeId} {v : Value} {d : DataW H} {ps : List MemPlace} {n : Nat} {ks : List Kd} (hu : (match P.underlying t with | some (.struct _) | some (.array _ _) => true | _ => false) = true) (hk : kinds P n t = some ks)
    (hok : Value.okWide P w r b0 t v) (h : DataW.Trod enc P w base spare held t v d ps) : ∃ cs : List Value, v = .agg cs.toArray ∧ AreKd w ks cs := by
  obtain ⟨m, hf⟩ := h
  have := trod_kinds n t ks hk m _ _ hf
  have hv : ∃ cs, v = .agg cs := by
    simp only [Value.okWide] at hok
    split at hok
    · obtain ⟨cs, rfl, _⟩ := hok; exact ⟨cs, rfl⟩
    · obtain ⟨cs, rfl, _⟩ := hok; exact ⟨cs, rfl⟩
    · rename_i h1 h2
      split at hu
      · rename_i fs he; exact absurd he (h1 fs)
      · rename_i k e he; exact absurd he (h2 k e)
      · cases hu
  obtain ⟨cs, rfl⟩ := hv
  exact ⟨cs.toList, by simp, this⟩
/-- An argument that is a slice. -/
theorem open_sl {r : Reach} {b0 : Nat} {t e : TypeId} {v : Value} {d : DataW H} {ps : List MemPlace} {n : Nat} {kd : Kd} (hu : P.underlying t = some (.slice e)) (hk : kinds P n t = some [kd])
    (hok : Value.okWide P w r b0 t v) (h : DataW.Trod enc P w base spare held t v d ps) : IsKd w kd v := by
  obtain ⟨m, hf⟩ := h
  have := trod_kinds n t _ hk m _ _ hf
  obtain ⟨a, l, c, rfl⟩ := okWide_slice hu hok
  obtain ⟨u, h1, h2⟩ := this.2 0 kd rfl
  simp [Value.cells] at h1
  rw [h1]; exact h2
end

/-- Cells of one kind of integers. -/
theorem AreKd.ints {w : World} {m : Nat} {k : IntKind} {cs : List Value} (h : AreKd w (List.replicate m (.int k)) cs) : ∃ ns : List Int, ns.length = m ∧ cs = ns.map (Value.int k) ∧ ∀ x ∈ ns, (Lit.int k x).wf = true := by
  have hl : cs.length = m := by simpa using h.1
  obtain ⟨ns, e, hw⟩ := ints_of_cells (k := k) cs (fun i hi => by
    obtain ⟨v, h1, h2⟩ := h.2 i (.int k) (by rw [List.getElem?_replicate, if_pos (by omega)])
    rw [IsKd] at h2
    obtain ⟨n, rfl, hw⟩ := h2
    exact ⟨n, h1, hw⟩)
  exact ⟨ns, by rw [← hl, e]; simp, e, hw⟩
theorem AreKd.cut {w : World} {ks ks' : List Kd} {cs : List Value} (h : AreKd w (ks ++ ks') cs) : ∃ c1 c2, cs = c1 ++ c2 ∧ AreKd w ks c1 ∧ AreKd w ks' c2 := by
  have hl : cs.length = ks.length + ks'.length := by simpa using h.1
  refine ⟨cs.take ks.length, cs.drop ks.length, by simp, ⟨by simp; omega, fun j kd hj => ?_⟩, ⟨by simp; omega, fun j kd hj => ?_⟩⟩
  · have hlt : j < ks.length := (List.getElem?_eq_some_iff.1 hj).1
    rw [List.getElem?_take_of_lt hlt]
    exact h.2 j kd (by rw [List.getElem?_append_left hlt]; exact hj)
  · rw [List.getElem?_drop]
    exact h.2 _ kd (by rw [List.getElem?_append_right (by omega)]; simpa using hj)
theorem AreKd.head {w : World} {k : Kd} {ks : List Kd} {cs : List Value} (h : AreKd w (k :: ks) cs) : ∃ v c, cs = v :: c ∧ IsKd w k v ∧ AreKd w ks c := by
  obtain ⟨c1, c2, rfl, h1, h2⟩ := AreKd.cut (ks := [k]) (ks' := ks) h
  obtain ⟨v, hv, hk⟩ := h1.2 0 k rfl
  match c1, h1.1 with
  | [u], _ => simp at hv; subst hv; exact ⟨u, c2, rfl, hk, h2⟩
/-- A slice's elements. -/
theorem IsKd.rows {w : World} {ks : List Kd} {v : Value} (h : IsKd w (.slice ks) v) : ∃ A n c, ∃ xs : List Value, v = .slice A n c ∧ n ≤ c ∧ c ≤ maxLen ∧ Sl w ks.length A n xs ∧ (A = none → c = 0) ∧ ∀ i, i < n → AreKd w ks ((xs.drop (i * ks.length)).take ks.length) := by
  rw [IsKd] at h
  obtain ⟨A, n, c, xs, rfl, hn, hc, hs, h0, hx⟩ := h
  refine ⟨A, n, c, xs, rfl, hn, hc, hs, h0, fun i hi => ?_⟩
  have hle : (i + 1) * ks.length ≤ n * ks.length := Nat.mul_le_mul_right _ (by omega)
  rw [Nat.add_mul] at hle
  refine ⟨by rw [List.length_take, List.length_drop, hs.1]; omega, fun j kd hj => ?_⟩
  have hlt : j < ks.length := (List.getElem?_eq_some_iff.1 hj).1
  obtain ⟨u, h1, h2⟩ := hx i hi j hlt
  have e : ks[j] = kd := by rw [List.getElem?_eq_getElem hlt] at hj; exact Option.some.inj hj
  rw [e] at h2
  exact ⟨u, by rw [List.getElem?_take_of_lt hlt, List.getElem?_drop]; exact h1, h2⟩
/-- The kinds of a line's cells, of a slice of lines. -/
def kLine : List Kd := List.replicate 8 (.int .u64)
theorem IsKd.lines {w : World} {v : Value} (h : IsKd w (.slice kLine) v) : ∃ A n c, ∃ xs : List Int, v = .slice A n c ∧ n ≤ c ∧ c ≤ maxLen ∧ Sl w 8 A n (xs.map (Value.int .u64)) ∧ (A = none → c = 0) := by
  rw [IsKd] at h
  obtain ⟨A, n, c, xs, rfl, hn, hc, hs, h0, hx⟩ := h
  have hl : xs.length = n * 8 := hs.1
  obtain ⟨ns, e, _⟩ := ints_of_cells (k := .u64) xs (fun i hi => by
    obtain ⟨u, h1, h2⟩ := hx (i / 8) (by omega) (i % 8) (by show i % 8 < 8; omega)
    have e1 : kLine[i % 8]'(by show i % 8 < 8; omega) = .int .u64 := List.getElem_replicate _
    rw [e1, IsKd] at h2
    obtain ⟨m, rfl, hw⟩ := h2
    have e2 : i / 8 * kLine.length + i % 8 = i := by show i / 8 * 8 + i % 8 = i; omega
    rw [e2] at h1
    exact ⟨m, h1, hw⟩)
  exact ⟨A, n, c, ns, rfl, hn, hc, by rw [← e]; exact hs, h0⟩
/-- A slice of integers of one kind. -/
theorem IsKd.ints {w : World} {k : IntKind} {v : Value} (h : IsKd w (.slice [.int k]) v) : ∃ A n c, ∃ xs : List Int, v = .slice A n c ∧ n ≤ c ∧ c ≤ maxLen ∧ Sl w 1 A n (xs.map (Value.int k)) ∧ ∀ x ∈ xs, (Lit.int k x).wf = true := by
  obtain ⟨A, n, c, xs, rfl, hn, hc, hs, h0, hx⟩ := h.rows
  have hl : xs.length = n := by simpa using hs.1
  obtain ⟨ns, e, hw⟩ := ints_of_cells (k := k) xs (fun i hi => by
    have h1 := hx i (by omega)
    have e1 : (xs.drop (i * [Kd.int k].length)).take [Kd.int k].length = [xs[i]] := by
      simp only [List.length_cons, List.length_nil, Nat.zero_add, Nat.mul_one]
      rw [List.drop_eq_getElem_cons hi]; rfl
    rw [e1] at h1
    obtain ⟨v, c, h2, h3, _⟩ := h1.head
    injection h2 with h2 _
    rw [IsKd] at h3
    obtain ⟨m, rfl, hw⟩ := h3
    exact ⟨m, by rw [List.getElem?_eq_getElem hi, h2], hw⟩)
  exact ⟨A, n, c, ns, rfl, hn, hc, by rw [← e]; exact hs, hw⟩
end Go.Proofs.Ytnocekhgabgffaa
end
section
namespace Go.Proofs.Ytnocekhgabgffaa
open Go.RowKit
set_option linter.unusedVariables false
set_option maxHeartbeats 1000000

theorem run_ite9 {P : Program} {α : Type} (c : Prop) [Decidable c] (x y : Sem α) (w : World) : (if c then x else y).run P w = if c then x.run P w else y.run P w := by split <;> rfl
theorem spot_eqN (n : Nat) (a b c d : Int) (w : World) : (Op.equalIn (n + 2) 121 (.agg (spC a b)) (.agg (spC c d))).run Try.prog w = .ok (decide ((a, b) = (c, d))) w := by
  have p := fun a b => run_part_plain (P := Try.prog) w (e := 3) (by kernel_rfl) (show (spC a b)[0]? = some (.int .i64 a) from rfl)
  have q := fun a b => run_part_plain (P := Try.prog) w (e := 3) (by kernel_rfl) (show (spC a b)[1]? = some (.int .i64 b) from rfl)
  have e0 := fun a b => run_equalIn_int w n 3 .i64 .i64 a b Try.underlying3
  rw [run_equalIn_struct w (n + 1) 121 _ _ (by simp only [Program.fieldsOf, Try.underlying121]) (by kernel_rfl)]
  simp only [Program.fieldsOf, Try.underlying121]
  simp only [Op.eqFields, ne_eq, String.reduceEq, not_false_eq_true, ↓reduceIte, Sem.run_bind, p, q, e0, Result.andThen_ok, run_ite9, Bool.not_eq_true', Prod.mk.injEq]
  by_cases h1 : a = c
  · by_cases h2 : b = d
    · simp [h1, h2]
    · simp [h1, h2]
  · simp [h1]
theorem spot_eq (a b c d : Int) (w : World) : (Op.equalIn 10000 121 (.agg (spC a b)) (.agg (spC c d))).run Try.prog w = .ok (decide ((a, b) = (c, d))) w := spot_eqN 9998 a b c d w
theorem spot_check (e : Bool) (k : Int × Int) (w : World) : (Instr.checkKey e 10000 121 (spV k)).run Try.prog w = .ok () w := by
  have p := fun a b => run_part_plain (P := Try.prog) w (e := 3) (by kernel_rfl) (show (spC a b)[0]? = some (.int .i64 a) from rfl)
  have q := fun a b => run_part_plain (P := Try.prog) w (e := 3) (by kernel_rfl) (show (spC a b)[1]? = some (.int .i64 b) from rfl)
  have c := fun a => MapKept.run_checkKey (P := Try.prog) (w := w) (d := .int .i64) (k := .int .i64 a) Try.underlying3 (by simp [MapKept.IsKey]) e 9998
  unfold Instr.checkKey spV
  simp only [Sem.run_bind, run_underlying Try.underlying121, Result.andThen_ok]
  rw [← Array.forIn_toList]
  simp [p, q, c, Sem.run_bind]
theorem spot_keyE : KeyE Try.prog 121 spV where
  check := spot_check
  find k ps es w he := by
    unfold Instr.findKey
    simp only [Sem.run_bind, run_underlying Try.underlying121, Result.andThen_ok]
    cases es with
    | nil =>
      have : ps = [] := by simpa using he.symm
      subst this
      rfl
    | cons e0 es0 =>
      have hn : ∀ fs : Array Field, Instr.findNow (.struct fs) (spV k) (e0 :: es0) 0 = none := by
        intro fs; unfold Instr.findNow; unfold spV; rfl
      rw [hn]
      show (Instr.findAsking 121 (spV k) (e0 :: es0) 0).run Try.prog w = _
      generalize 0 = i
      generalize e0 :: es0 = es at he
      induction ps generalizing es i with
      | nil =>
        have : es = [] := by simpa using he
        subst this; rfl
      | cons p ps ih =>
        cases es with
        | nil => cases he
        | cons e es =>
          simp only [List.map_cons, List.cons.injEq, Prod.mk.injEq] at he
          obtain ⟨⟨h1, h2⟩, h3⟩ := he
          obtain ⟨a, v⟩ := p
          simp only at h1 h2
          unfold Instr.findAsking findP
          rw [h1]
          have he : (Op.equal 121 (spV k) (spV a)).run Try.prog w = .ok (decide ((k.1, k.2) = (a.1, a.2))) w := spot_eq _ _ _ _ w
          simp only [Sem.run_bind, he, Result.andThen_ok, run_ite9]
          by_cases hk : a = k
          · subst hk; simp [h2]
          · have : ¬ (k.1, k.2) = (a.1, a.2) := fun h => hk (Prod.ext (congrArg Prod.fst h).symm (congrArg Prod.snd h).symm)
            simp only [decide_eq_true_eq, if_neg this, if_neg hk]
            exact ih (i + 1) es h3
  same k := by simp [Instr.sameBits, spV, spC]
theorem key_int : KeyE Try.prog 3 (fun k : Int => Value.int .i64 k) := int_keyE Try.underlying3
theorem zero_new (w : World) : (zeroValue 118).run Try.prog w = .ok (nwV (0, 0)) w := by kernel_rfl
theorem zero_ints (w : World) : (zeroValue 57).run Try.prog w = .ok (.slice none 0 0) w := by kernel_rfl
theorem zero_doing (w : World) : (zeroValue 113).run Try.prog w = .ok .nilFunc w := by kernel_rfl
theorem be_eq (a b : Be) (w : World) : (Op.equalIn 10000 125 (.agg (bec a)) (.agg (bec b))).run Try.prog w = .ok (decide (a = b)) w := by
  have p := fun a => run_part_plain (P := Try.prog) w (e := 4) (by kernel_rfl) (bec_fl a)
  have q : ∀ a, (part 121 (bec a) 1).run Try.prog w = .ok (.agg (spC a.li a.wo)) w := by
    intro a
    simp [part, isAgg, run_underlying Try.underlying121]
    rfl
  have r := fun a => run_part_plain (P := Try.prog) w (e := 39) (by kernel_rfl) (bec_va a)
  have e0 := fun a b => run_equalIn_bool w 9998 4 a b Try.underlying4
  have e1 := fun a b => run_equalIn_int w 9998 39 .u64 .u64 a b Try.underlying39
  have e2 : ∀ a b c d, (Op.equalIn 9999 121 (.agg (spC a b)) (.agg (spC c d))).run Try.prog w = .ok (decide ((a, b) = (c, d))) w := fun a b c d => spot_eqN 9997 a b c d w
  rw [run_equalIn_struct w 9999 125 _ _ (by simp only [Program.fieldsOf, Try.underlying125]) (by kernel_rfl)]
  simp only [Program.fieldsOf, Try.underlying125]
  simp only [Op.eqFields, ne_eq, String.reduceEq, not_false_eq_true, ↓reduceIte, Sem.run_bind, p, q, r, e0, e1, e2, Result.andThen_ok, run_ite9, Bool.not_eq_true']
  obtain ⟨a1, a2, a3, a4⟩ := a
  obtain ⟨b1, b2, b3, b4⟩ := b
  simp only [Be.mk.injEq]
  by_cases h1 : a1 = b1 <;> by_cases h2 : (a2, a3) = (b2, b3) <;> by_cases h3 : a4 = b4 <;> simp_all
end Go.Proofs.Ytnocekhgabgffaa
end
section
namespace Go.Proofs.Ytnocekhgabgffaa
open Go.RowKit
set_option linter.unusedVariables false
set_option maxHeartbeats 1000000

/-! ### A slice of a block of its own, or none -/
section
variable {α : Type} {enc : α → List Value} {k bytes : Nat} {P : Program} {t ty e : TypeId} {z : Value}
theorem Vof.swap {w : World} {q q' be : Nat} {A : Option Addr} {cap : Nat} {xs : List α} (h : Vof k e enc w q be A cap xs) (hq : be ≠ q) (hq' : be ≠ q') : Vof k e enc w q' be A cap xs := by
  rcases h with ⟨h, _⟩ | ⟨_, h⟩
  · exact absurd h hq
  · exact .inr ⟨hq', h⟩
def Vq (k : Nat) (e : TypeId) (enc : α → List Value) (w : World) (F : List Nat) (A : Option Addr) (cap : Nat) (xs : List α) : Prop :=
  (F = [] ∧ A = none ∧ cap = 0 ∧ xs = []) ∨ ∃ be, F = [be] ∧ Vof k e enc w (be + 1) be A cap xs
theorem Vq.nil (k : Nat) (e : TypeId) (enc : α → List Value) (w : World) : Vq k e enc w [] none 0 ([] : List α) := .inl ⟨rfl, rfl, rfl, rfl⟩
variable {w w' : World} {F : List Nat} {A : Option Addr} {cap : Nat} {xs : List α}
theorem Vq.keep {l : List Nat} (h : Vq k e enc w F A cap xs) (hc : Chg l w w') (hb : ∀ b ∈ F, b ∉ l) : Vq k e enc w' F A cap xs := by
  rcases h with h | ⟨be, rfl, h⟩
  · exact .inl h
  · exact .inr ⟨be, rfl, h.keep hc (hb be (by simp))⟩
theorem Vq.le (h : Vq k e enc w F A cap xs) : xs.length ≤ cap := by
  rcases h with ⟨_, _, rfl, rfl⟩ | ⟨be, rfl, h⟩
  · simp
  · exact h.le
theorem Vq.old (h : Vq k e enc w F A cap xs) : ∀ b ∈ F, Old w b := by
  rcases h with ⟨rfl, _⟩ | ⟨be, rfl, h⟩
  · simp
  · intro b hb
    obtain rfl : b = be := by simpa using hb
    rcases h with ⟨h, _⟩ | ⟨_, _, o, p, r, _, _, h5, _⟩
    · omega
    · exact Go.Proofs.Ytnocekhgabgffaa.old h5
theorem Vq.nodup (h : Vq k e enc w F A cap xs) : F.Nodup := by
  rcases h with ⟨rfl, _⟩ | ⟨be, rfl, h⟩ <;> simp
theorem Vq.tail {x : α} {xs : List α} (hk : ∀ a, (enc a).length = k) (h : Vq k e enc w F A cap (x :: xs)) : Vq k e enc w F (behind k A cap) (cap - 1) xs := by
  rcases h with ⟨_, _, _, h⟩ | ⟨be, rfl, h⟩
  · cases h
  · exact .inr ⟨be, rfl, h.tail hk⟩
theorem Vq.first {x : α} {xs : List α} (hk : ∀ a, (enc a).length = k) (h : Vq k e enc w F A cap (x :: xs)) :
    ∃ (be o : Nat) (C : Array Value), F = [be] ∧ A = some ⟨be, o, none⟩ ∧ w.heap[be]? = some (.cells C e (0, 0)) ∧ rowIn (some (.cells C e (0, 0))) o k = true ∧ rowPart (some (.cells C e (0, 0))) o k = (enc x).toArray := by
  rcases h with ⟨_, _, _, h⟩ | ⟨be, rfl, h⟩
  · cases h
  · obtain ⟨_, o, C, h1, h2, h3, h4⟩ := h.first hk
    exact ⟨be, o, C, rfl, h1, h2, h3, h4⟩
theorem Vq.app (E : Elt P t e k bytes z enc) (hv : Vq k e enc w F A cap xs) {q : Nat} (hq : Old w q) (hqF : q ∉ F)
    {B : Option Addr} {m c : Nat} {ys : List α} (hs : Sl w k B m (cat enc ys)) (hm : ys.length = m) (hB : (xs.length + m) * bytes ≤ 140737488355328) (h63 : xs.length + m ≤ maxLen) :
    ∃ (F' : List Nat) (cap' : Nat) (A' : Option Addr) (w' : World), appR P t ty #[.slice A xs.length cap, .slice B m c] w = .ok (.slice A' (xs.length + m) cap') w' ∧ Vq k e enc w' F' A' cap' (xs ++ ys) ∧ (∀ b ∈ F', b ∈ F ∨ w.heap.size ≤ b) ∧ Chg F w w' := by
  rcases hv with ⟨rfl, rfl, rfl, rfl⟩ | ⟨be, rfl, h⟩
  · obtain ⟨be', cap', A', w', h1, h2, h3, h4, h5⟩ := (Vof.nil k e enc w q).app (ty := ty) E hq hs (c := c) hm hB h63
    have hc : Chg [] w w' := h4.less h5
    by_cases hbe : be' = q
    · rcases h2 with ⟨_, ha, hb, hx⟩ | ⟨hne, _⟩
      · exact ⟨[], cap', A', w', h1, .inl ⟨rfl, ha, hb, hx⟩, by simp, hc⟩
      · exact absurd hbe hne
    · refine ⟨[be'], cap', A', w', h1, .inr ⟨be', rfl, h2.swap hbe (by omega)⟩, ?_, hc⟩
      intro b hb
      obtain rfl : b = be' := by simpa using hb
      rcases h3 with h3 | h3
      · exact absurd h3 hbe
      · exact .inr h3
  · have hq2 : be ≠ q := fun e => hqF (by simp [e])
    obtain ⟨be', cap', A', w', h1, h2, h3, h4, h5⟩ := (h.swap (by omega) hq2).app (ty := ty) E hq hs (c := c) hm hB h63
    have hbe : be' ≠ q := by
      rcases h3 with h3 | h3
      · omega
      · have := hq.lt; omega
    refine ⟨[be'], cap', A', w', h1, .inr ⟨be', rfl, h2.swap hbe (by omega)⟩, ?_, h4⟩
    intro b hb
    obtain rfl : b = be' := by simpa using hb
    exact h3.imp (fun e => by simp [e]) id
end

theorem nodup_swap {N : Nat} {a F F' b : List Nat} (h : (a ++ (F ++ b)).Nodup) (ho : ∀ x ∈ a ++ b, x < N) (hF' : F'.Nodup) (hs : ∀ x ∈ F', x ∈ F ∨ N ≤ x) : (a ++ (F' ++ b)).Nodup := by
  rw [List.nodup_append] at h
  obtain ⟨h1, h2, h3⟩ := h
  rw [List.nodup_append] at h2
  obtain ⟨h4, h5, h6⟩ := h2
  rw [List.nodup_append]
  refine ⟨h1, List.nodup_append.2 ⟨hF', h5, fun x hx y hy => ?_⟩, fun x hx y hy => ?_⟩
  · rcases hs x hx with h | h
    · exact h6 x h y hy
    · have := ho y (by simp [hy]); omega
  · rcases List.mem_append.1 hy with hy | hy
    · rcases hs y hy with h | h
      · exact h3 x hx y (by simp [h])
      · have := ho x (by simp [hx]); omega
    · exact h3 x hx y (by simp [hy])

/-! ### Elements -/
theorem eltBe : Elt Try.prog 108 125 4 32 (.agg (bec beZ)) Be.enc where
  slice := Try.underlying108
  info := by kernel_rfl
  zero := bec_size beZ
  zone := by intro v hv; exact Be.one beZ v (by simpa [Value.cells, bec] using hv)
  pos := by omega
  len := Be.len
  one := Be.one
theorem eltI : Elt Try.prog 57 3 1 8 (.int .i64 0) intEnc where
  slice := Try.underlying57
  info := by kernel_rfl
  zero := rfl
  zone := by intro v hv; simp [Value.cells] at hv; subst hv; rfl
  pos := by omega
  len := intEnc_len
  one := intEnc_one
theorem be_sl {w : World} {b : Nat} {x : Be} {T : TypeId} {f : Nat × Nat} (h : w.heap[b]? = some (.cells (bec x) T f)) : Sl w 4 (some ⟨b, 0, none⟩) 1 (cat Be.enc [x]) :=
  ⟨by rw [cat_length Be.len]; rfl, .inr ⟨b, 0, _, T, f, rfl, h, by rw [cat_one]; rfl⟩⟩
theorem int_sl {w : World} {b : Nat} {x : Int} {T : TypeId} {f : Nat × Nat} (h : w.heap[b]? = some (.cells #[.int .i64 x] T f)) : Sl w 1 (some ⟨b, 0, none⟩) 1 (cat intEnc [x]) :=
  ⟨rfl, .inr ⟨b, 0, _, T, f, rfl, h, rfl⟩⟩

/-! ### A core in memory -/
structure Hs where
  F : List Nat
  A : Option Addr
  cap : Nat
  xs : List Int
def Hs.val (h : Hs) : Value := .slice h.A h.xs.length h.cap
def foot (hs : List (Int × Hs)) : List Nat := (hs.map fun p => p.2.F).flatten
theorem foot_cons (p : Int × Hs) (hs : List (Int × Hs)) : foot (p :: hs) = p.2.F ++ foot hs := rfl
structure CoM (w : World) (x : Cx) (F : List Nat) (c : Bc) : Prop where
  n : x.n = c.buf.length
  st : x.st = c.st
  la : x.la = c.la
  at_ : ∃ (Fb : List Nat) (hs : List (Int × Hs)), F.Perm (x.ms :: x.mt :: (Fb ++ foot hs)) ∧ Vq 4 125 Be.enc w Fb x.A x.cap c.buf ∧ MapAt spV w x.ms (onA nwV c.sm) ∧
    MapAt (fun k : Int => Value.int .i64 k) w x.mt (onA Hs.val hs) ∧ onA Hs.xs hs = c.tm ∧ ∀ p ∈ hs, Vq 1 3 intEnc w p.2.F p.2.A p.2.cap p.2.xs
theorem CoM.keep {w w' : World} {x : Cx} {F : List Nat} {c : Bc} {l : List Nat} (h : CoM w x F c) (hc : Chg l w w') (hb : ∀ b ∈ F, b ∉ l) : CoM w' x F c := by
  obtain ⟨h1, h2, h3, Fb, hs, h4, h5, h6, h7, h8, h9⟩ := h
  have hb' : ∀ b ∈ x.ms :: x.mt :: (Fb ++ foot hs), b ∉ l := fun b hm => hb b (h4.mem_iff.2 hm)
  refine ⟨h1, h2, h3, Fb, hs, h4, h5.keep hc (fun b hm => hb' b (by simp [hm])), h6.keep hc (hb' _ (by simp)), h7.keep hc (hb' _ (by simp)), h8, fun p hp => (h9 p hp).keep hc (fun b hm => hb' b ?_)⟩
  have : b ∈ foot hs := List.mem_flatten.2 ⟨_, List.mem_map.2 ⟨p, hp, rfl⟩, hm⟩
  simp [this]
/-- The same core, with another last event, or stopped. -/
theorem CoM.la_ {w : World} {x : Cx} {F : List Nat} {c : Bc} (h : CoM w x F c) (e : Ev) : CoM w { x with la := e } F { c with la := e } := ⟨h.n, h.st, rfl, h.at_⟩
theorem CoM.stop {w : World} {x : Cx} {F : List Nat} {c : Bc} (h : CoM w x F c) (b : Bool) : CoM w { x with st := b } F { c with st := b } := ⟨h.n, rfl, h.la, h.at_⟩
theorem CoM.old {w : World} {x : Cx} {F : List Nat} {c : Bc} (h : CoM w x F c) : ∀ b ∈ F, Old w b := by
  obtain ⟨_, _, _, Fb, hs, h4, h5, ⟨o6, h6, _⟩, ⟨o7, h7, _⟩, h8, h9⟩ := h
  intro b hb
  have hb := h4.mem_iff.1 hb
  simp only [List.mem_cons, List.mem_append] at hb
  rcases hb with rfl | rfl | hb | hb
  · exact lt_heap h6
  · exact lt_heap h7
  · exact h5.old b hb
  · obtain ⟨l, hl, hb⟩ := List.mem_flatten.1 hb
    obtain ⟨p, hp, rfl⟩ := List.mem_map.1 hl
    exact (h9 p hp).old b hb

/-! ### A core's cells in the block of all cores -/
theorem cx_cells {xs : List Cx} {i : Nat} {x : Cx} (h : xs[i]? = some x) :
    (sq Cx.enc xs [])[i * 9]? = some (.slice x.A x.n x.cap) ∧ (sq Cx.enc xs [])[i * 9 + 1]? = some (.map (some x.ms)) ∧ (sq Cx.enc xs [])[i * 9 + 2]? = some (.map (some x.mt)) ∧ (sq Cx.enc xs [])[i * 9 + 3]? = some (.bool x.st) ∧
    (sq Cx.enc xs [])[i * 9 + 4]? = some (.int .i64 x.la.kd) ∧ (sq Cx.enc xs [])[i * 9 + 5]? = some (.int .i64 x.la.co) ∧ (sq Cx.enc xs [])[i * 9 + 6]? = some (.int .i64 x.la.li) ∧ (sq Cx.enc xs [])[i * 9 + 7]? = some (.int .i64 x.la.wo) ∧ (sq Cx.enc xs [])[i * 9 + 8]? = some (.int .u64 x.la.va) :=
  ⟨sq_cell Cx.len h [] 0 (by omega), sq_cell Cx.len h [] 1 (by omega), sq_cell Cx.len h [] 2 (by omega), sq_cell Cx.len h [] 3 (by omega), sq_cell Cx.len h [] 4 (by omega), sq_cell Cx.len h [] 5 (by omega), sq_cell Cx.len h [] 6 (by omega), sq_cell Cx.len h [] 7 (by omega), sq_cell Cx.len h [] 8 (by omega)⟩
theorem sq_set9 {α : Type} {k : Nat} {enc : α → List Value} (hk : ∀ a, (enc a).length = k) {xs : List α} {i : Nat} {a b : α} {o : Nat} {v : Value} (h : xs[i]? = some a) (ho : o < k) (he : enc b = (enc a).set o v) : (sq enc xs []).setIfInBounds (i * k + o) v = sq enc (xs.set i b) [] := by
  unfold sq
  rw [List.append_nil, List.append_nil, List.setIfInBounds_toArray]
  congr 1
  induction xs generalizing i with
  | nil => cases h
  | cons y ys ih =>
    cases i with
    | zero =>
      obtain rfl : y = a := by simpa using h
      rw [List.set_cons_zero, cat_cons, cat_cons, he, Nat.zero_mul, Nat.zero_add, List.set_append_left _ _ (by rw [hk]; exact ho)]
    | succ i =>
      rw [List.set_cons_succ, cat_cons, cat_cons, ← ih (by simpa using h), List.set_append_right _ _ (by rw [hk, Nat.add_mul]; omega), hk]
      congr 2
      rw [Nat.add_mul]; omega
theorem cx_n {xs : List Cx} {i : Nat} {x : Cx} (h : xs[i]? = some x) (A : Option Addr) (n cap : Nat) : (sq Cx.enc xs []).setIfInBounds (i * 9) (.slice A n cap) = sq Cx.enc (xs.set i { x with A := A, n := n, cap := cap }) [] := sq_set9 (o := 0) Cx.len h (by omega) rfl
theorem cx_st {xs : List Cx} {i : Nat} {x : Cx} (h : xs[i]? = some x) (b : Bool) : (sq Cx.enc xs []).setIfInBounds (i * 9 + 3) (.bool b) = sq Cx.enc (xs.set i { x with st := b }) [] := sq_set9 (o := 3) Cx.len h (by omega) rfl
theorem cx_ev {xs : List Cx} {i : Nat} {x : Cx} (h : xs[i]? = some x) (t : TypeId) (f : Nat × Nat) : rowPart (some (.cells (sq Cx.enc xs []) t f)) (i * 9 + 4) 5 = evc x.la ∧ rowIn (some (.cells (sq Cx.enc xs []) t f)) (i * 9 + 4) 5 = true :=
  ⟨rowPart_sq Cx.len h [] t f 4 5 (by omega), rowIn_sq Cx.len (List.getElem?_eq_some_iff.1 h).1 [] t f 4 5 (by omega)⟩
theorem one_new (w : World) (a : Obj) : (w.alloc a).heap[w.heap.size]? = some a ∧ Chg [] w (w.alloc a) := ⟨(MapKept.heap_alloc w a).1, (Chg.refl [] w).alloc _⟩
def CoTo (w : World) (bc i : Nat) (xs : List Cx) (g : List Nat) (c : Bc) (w' : World) : Prop :=
  ∃ x' g', w'.heap[bc]? = some (.cells (sq Cx.enc (xs.set i x') []) 111 (0, 0)) ∧ CoM w' x' g' c ∧ g'.Nodup ∧ (∀ b ∈ g', b ∈ g ∨ w.heap.size ≤ b) ∧ Chg (bc :: g) w w'
/-- Where a core lies. -/
structure CoIn (w : World) (bc i : Nat) (xs : List Cx) (x : Cx) (g : List Nat) (c : Bc) : Prop where
  hb : w.heap[bc]? = some (.cells (sq Cx.enc xs []) 111 (0, 0))
  hx : xs[i]? = some x
  co : CoM w x g c
  nd : g.Nodup
  nb : bc ∉ g
theorem CoIn.keep {w w' : World} {bc i : Nat} {xs : List Cx} {x : Cx} {g : List Nat} {c : Bc} {l : List Nat} (h : CoIn w bc i xs x g c) (hc : Chg l w w') (hb : bc ∉ l) (hg : ∀ b ∈ g, b ∉ l) : CoIn w' bc i xs x g c :=
  ⟨hc.keep h.hb hb, h.hx, h.co.keep hc hg, h.nd, h.nb⟩
theorem CoTo.of {w w1 : World} {bc i : Nat} {xs : List Cx} {g : List Nat} {c : Bc} {w' : World} (h : CoTo w1 bc i xs g c w') (hc : Chg [] w w1) : CoTo w bc i xs g c w' := by
  obtain ⟨x', g', h1, h2, h3, h4, h5⟩ := h
  exact ⟨x', g', h1, h2, h3, fun b hb => (h4 b hb).imp id (fun h => Nat.le_trans hc.size h), (hc.mono (by simp)).trans h5⟩

theorem CoIn.made {w w' : World} {bc i : Nat} {xs : List Cx} {x : Cx} {g : List Nat} {c : Bc} (h : CoIn w bc i xs x g c) {Fb : List Nat} {hs' : List (Int × Hs)} (hF : g.Perm (x.ms :: x.mt :: (Fb ++ foot hs')))
    (ht : MapAt (fun k : Int => Value.int .i64 k) w x.mt (onA Hs.val hs')) (htm : onA Hs.xs hs' = c.tm) (hvt : ∀ p ∈ hs', Vq 1 3 intEnc w p.2.F p.2.A p.2.cap p.2.xs) (hc : Chg (x.ms :: bc :: Fb) w w')
    {F' : List Nat} {A' : Option Addr} {cap' : Nat} {buf' : List Be} {sm' : List ((Int × Int) × (Int × Int))}
    (hb' : w'.heap[bc]? = some (.cells (sq Cx.enc (xs.set i { x with A := A', n := buf'.length, cap := cap' }) []) 111 (0, 0))) (hv : Vq 4 125 Be.enc w' F' A' cap' buf')
    (hF' : ∀ z ∈ F', z ∈ Fb ∨ w.heap.size ≤ z) (hm : MapAt spV w' x.ms (onA nwV sm')) : CoTo w bc i xs g { c with buf := buf', sm := sm' } w' := by
  obtain ⟨hb, hx, hco, nd, nb⟩ := h
  have hnd := hF.nodup_iff.1 nd
  have hog : ∀ b ∈ g, b < w.heap.size := fun b hb => (hco.old b hb).lt
  have hgF : ∀ z ∈ foot hs', z ∈ g := fun z hz => hF.mem_iff.2 (by simp [hz])
  have hne : x.ms ∈ g ∧ x.mt ∈ g := ⟨hF.mem_iff.2 (by simp), hF.mem_iff.2 (by simp)⟩
  have hFb : ∀ z ∈ Fb, z ∈ g := fun z hz => hF.mem_iff.2 (by simp [hz])
  obtain ⟨hn, hst, hla, _⟩ := hco
  simp only [List.nodup_cons, List.mem_cons, List.mem_append, List.nodup_append] at hnd
  refine ⟨{ x with A := A', n := buf'.length, cap := cap' }, x.ms :: x.mt :: (F' ++ foot hs'), hb', ⟨rfl, hst, hla, F', hs', List.Perm.refl _, hv, hm, ht.keep hc ?_, htm, fun q hq => (hvt q hq).keep hc (fun z hz => ?_)⟩, ?_, ?_, ?_⟩
  · simp only [List.mem_cons, not_or]
    exact ⟨fun e => hnd.1 (.inl e.symm), fun e => nb (e ▸ hne.2), fun h => hnd.2.1 (.inl h)⟩
  · have hz' : z ∈ foot hs' := List.mem_flatten.2 ⟨_, List.mem_map.2 ⟨q, hq, rfl⟩, hz⟩
    simp only [List.mem_cons, not_or]
    exact ⟨fun e => hnd.1 (.inr (.inr (e ▸ hz'))), fun e => nb (e ▸ hgF z hz'), fun h => hnd.2.2.2.2 z h z hz' rfl⟩
  · refine nodup_swap (N := w.heap.size) (a := [x.ms, x.mt]) (F := Fb) (hF.nodup_iff.1 nd) ?_ hv.nodup hF'
    intro z hz
    simp only [List.mem_append, List.mem_cons, List.not_mem_nil, or_false] at hz
    rcases hz with (rfl | rfl) | hz
    · exact hog _ hne.1
    · exact hog _ hne.2
    · exact hog _ (hgF z hz)
  · intro z hz
    simp only [List.mem_append, List.mem_cons] at hz
    rcases hz with rfl | rfl | hz | hz
    · exact .inl hne.1
    · exact .inl hne.2
    · exact (hF' z hz).imp (hFb z) id
    · exact .inl (hgF z hz)
  · exact hc.mono (fun z hz => .inl (by
      simp only [List.mem_cons] at hz ⊢
      rcases hz with rfl | rfl | hz
      · exact .inr hne.1
      · exact .inl rfl
      · exact .inr (hFb z hz)))
end Go.Proofs.Ytnocekhgabgffaa
end
section
namespace Go.Proofs.Ytnocekhgabgffaa
open Go.RowKit
set_option linter.unusedVariables false
theorem wideLine : Wide Try.prog 44 8 := ⟨⟨_, Try.underlying44, by rfl⟩, by kernel_rfl⟩
theorem loadLine (x : Value) : Instr.loadAt 44 x = loadS 44 8 x := rfl
theorem storeLine (x y : Value) : Instr.storeAt 44 x y = storeS 44 8 x y := rfl
attribute [local go_sem ↓] append_appS copy_copS clear_clrS make_mkS cell_row frozen_row loadLine storeLine heap_drew heap_drewN heap_alloc heap_past heap_setCell heap_putRow
attribute [local go_sem] rowCell_some rowFrozen_some rowHas_some rowIn_some rowPart_full rowPart_lit rowPut_full rowPut_lit rowSet_some size_putRow vs_size vs_one wideLine run_loadS run_storeS run_appS run_copS run_clrS run_mkS loadW_at storeW_at fit_all one_int one_bool one_pointer one_slice allOne_list putRow_new ne_size1 ne_size2 ne_size3 ne_size4
attribute [local simp ↓] heap_drew heap_drewN heap_alloc heap_past heap_setCell heap_putRow
attribute [local simp] rowCell_some rowFrozen_some rowHas_some rowIn_some rowPart_full rowPart_lit rowPut_full rowPut_lit rowSet_some size_putRow vs_size fit_all putRow_new ne_size1 ne_size2 ne_size3 ne_size4

/-! ### The device -/
/-- A line of words 0. -/
def zero8 : List Int := [0, 0, 0, 0, 0, 0, 0, 0]

theorem zero8_length : zero8.length = 8 := rfl
attribute [local go_sem] zero8_length
attribute [local simp] zero8_length

/-! ### Images -/
theorem line_info : (Try.prog.info? 44).map (fun i => (i.zero, i.size, i.bytes)) = some (some (.agg (vs zero8)), 8, 64) := by kernel_rfl
theorem lines_nil (w : World) (a : Option Addr) (n c n' c' : Nat) : (binOp .eql 24 (.slice a n c) (.slice none n' c')).run Try.prog w = .ok (.bool a.isNone) w := Lib.run_eql_slice_nil w _ _ a n c n' c' Try.underlying24
attribute [local go_sem] lines_nil
theorem clone_ok (A : Option Addr) (n c : Nat) (xs : List Value) (w : World) (h : Sl w 8 A n xs) (h0 : 0 < n) (hn : n * 64 ≤ 140737488355328) :
    Calls Try.prog 31 #[.slice A n c] w fun e w' => ∃ g cap r, e = .returned (.slice (some ⟨g, 0, none⟩) n cap) ∧ w'.heap[g]? = some (.cells (xs ++ r).toArray 44 (0, 0)) ∧ w.heap.size ≤ g ∧ n ≤ cap ∧ Chg [] w w' := by
  obtain ⟨i0, hi0, hz0, hz1, hz2⟩ := info_parts line_info
  obtain ⟨b, o, rfl⟩ := h.addr h0
  have hcl := run_clone (P := Try.prog) (t := 24) (ty := 24) Try.underlying24 hi0 hz0 (w.alloc (.cells #[] 44)) ⟨w.heap.size, 0, none⟩ (some ⟨b, o, none⟩) n c xs (by rw [hz1]; exact h.chg ((Chg.refl [] w).alloc _) (by simp)) h0 (by simp only [maxLen]; omega) (by rw [hz2]; exact hn)
  have hge := grownCap_ge (w.alloc (.cells #[] 44)) n 0 44
  generalize grownCap (w.alloc (.cells #[] 44)) n 0 44 = cap at hcl hge
  generalize (Builtin.zeroCells (Value.agg (vs zero8)).cells (cap - n)).toList = r at hcl
  clear h h0 hn hz0 hz1 hz2 hi0
  go_enter Try.func31, Try.ntmps31
  go_wp2
  go_ret
  exact ⟨w.heap.size + 1, cap, r, rfl, by simp, by omega, hge, (((Chg.refl _ _).alloc _).drew).alloc _⟩

end Go.Proofs.Ytnocekhgabgffaa
end
section
namespace Go.Proofs.Ytnocekhgabgffaa
open Go.RowKit
set_option linter.unusedVariables false
attribute [local go_sem ↓] append_appS copy_copS clear_clrS make_mkS cell_row frozen_row loadLine storeLine heap_drew heap_drewN heap_alloc heap_past heap_setCell heap_putRow
attribute [local go_sem] rowCell_some rowFrozen_some rowHas_some rowIn_some rowPart_full rowPart_lit rowPut_full rowPut_lit rowSet_some size_putRow vs_size vs_one wideLine run_loadS run_storeS run_appS run_copS run_clrS run_mkS loadW_at storeW_at fit_all one_int one_bool one_pointer one_slice allOne_list putRow_new ne_size1 ne_size2 ne_size3 ne_size4 zero8_length lines_nil
attribute [local simp ↓] heap_drew heap_drewN heap_alloc heap_past heap_setCell heap_putRow
attribute [local simp] rowCell_some rowFrozen_some rowHas_some rowIn_some rowPart_full rowPart_lit rowPut_full rowPut_lit rowSet_some size_putRow vs_size fit_all putRow_new ne_size1 ne_size2 ne_size3 ne_size4 zero8_length

/-- Lines made. -/
theorem run_make_lines (w : World) (n : Nat) (hn : n ≤ 64) : mkR Try.prog 24 (.int .i64 n) (.int .i64 n) w = .ok (.slice (some ⟨w.heap.size, 0, none⟩) n n) (w.alloc (.cells (bk (List.replicate (n * 8) 0) []) 44)) := by
  obtain ⟨i0, hi0, hz0, hz1, hz2⟩ := info_parts line_info
  have := run_make (P := Try.prog) w 24 44 i0 _ Try.underlying24 hi0 hz0 .i64 .i64 n n (by omega) (by omega) (by rw [hz2]; omega) (by omega)
  simp only [Int.toNat_natCast, hz1] at this
  rw [← made_made]
  exact this

/-- A clone made where it is asked for. -/
theorem clone_run (w : World) (A : Option Addr) (n c : Nat) (xs : List Int) (h : Sl w 8 A n (xs.map (Value.int .u64))) (h0 : 0 < n) (hn : n * 64 ≤ 140737488355328) :
    ∃ (cap : Nat) (r : List Value), n ≤ cap ∧ appR Try.prog 24 24 #[.slice (some ⟨w.heap.size, 0, none⟩) 0 0, .slice A n c] (w.alloc (.cells #[] 44)) =
      .ok (.slice (some ⟨w.heap.size + 1, 0, none⟩) n cap) ((w.alloc (.cells #[] 44)).drew.alloc (.cells (bk xs r) 44)) := by
  obtain ⟨i0, hi0, hz0, hz1, hz2⟩ := info_parts line_info
  have hcl := run_clone (P := Try.prog) (t := 24) (ty := 24) Try.underlying24 hi0 hz0 (w.alloc (.cells #[] 44)) ⟨w.heap.size, 0, none⟩ A n c (xs.map (Value.int .u64)) (by rw [hz1]; exact h.chg ((Chg.refl [] w).alloc _) (by simp)) h0 (by simp only [maxLen]; omega) (by rw [hz2]; exact hn)
  refine ⟨_, (Builtin.zeroCells (Value.agg (vs zero8)).cells (grownCap (w.alloc (.cells #[] 44)) n 0 44 - n)).toList, grownCap_ge (w.alloc (.cells #[] 44)) n 0 44, ?_⟩
  rw [hcl, World.size_alloc]
  rfl
theorem clone_run0 (w : World) (a : Addr) (A : Option Addr) (c : Nat) : appR Try.prog 24 24 #[.slice (some a) 0 0, .slice A 0 c] w = .ok (.slice (some a) 0 0) w := by
  obtain ⟨i0, hi0, hz0, hz1, hz2⟩ := info_parts line_info
  exact run_clone0 Try.underlying24 hi0 w a A c

theorem clone_any (w : World) (A : Option Addr) (n c : Nat) (xs : List Int) (h : Sl w 8 A n (xs.map (Value.int .u64))) (hn : n * 64 ≤ 140737488355328) :
    ∃ (g cap : Nat) (r : List Value) (w' : World), appR Try.prog 24 24 #[.slice (some ⟨w.heap.size, 0, none⟩) 0 0, .slice A n c] (w.alloc (.cells #[] 44)) = .ok (.slice (some ⟨g, 0, none⟩) n cap) w' ∧
      w'.heap[g]? = some (.cells (bk xs r) 44 (0, 0)) ∧ w.heap.size ≤ g ∧ Chg [] w w' := by
  rcases Nat.eq_zero_or_pos n with h0 | h0
  · subst h0
    have hx : xs = [] := List.eq_nil_of_length_eq_zero (by simpa using h.1)
    subst hx
    exact ⟨w.heap.size, 0, [], _, clone_run0 _ _ A c, by simp [bk], Nat.le_refl _, (Chg.refl _ _).alloc _⟩
  · obtain ⟨cap, r, _, hr⟩ := clone_run w A n c xs h h0 hn
    exact ⟨w.heap.size + 1, cap, r, _, hr, by simp, by omega, ((Chg.refl _ _).alloc _).drew.alloc _⟩

/-! ### The document's device -/
end Go.Proofs.Ytnocekhgabgffaa
end
section
namespace Go.Proofs.Ytnocekhgabgffaa
open Go.RowKit
set_option linter.unusedVariables false
attribute [local go_sem ↓] append_appS copy_copS clear_clrS make_mkS cell_row frozen_row loadLine storeLine heap_drew heap_drewN heap_alloc heap_past heap_setCell heap_putRow
attribute [local go_sem] rowCell_some rowFrozen_some rowHas_some rowIn_some rowPart_full rowPart_lit rowPut_full rowPut_lit rowSet_some size_putRow vs_size vs_one wideLine run_loadS run_storeS run_appS run_copS run_clrS run_mkS loadW_at storeW_at fit_all one_int one_bool one_pointer one_slice allOne_list putRow_new ne_size1 ne_size2 ne_size3 ne_size4 zero8_length lines_nil
attribute [local simp ↓] heap_drew heap_drewN heap_alloc heap_past heap_setCell heap_putRow
attribute [local simp] rowCell_some rowFrozen_some rowHas_some rowIn_some rowPart_full rowPart_lit rowPut_full rowPut_lit rowSet_some size_putRow vs_size fit_all putRow_new ne_size1 ne_size2 ne_size3 ne_size4 zero8_length


theorem line_eq (a b : List Int) (ha : a.length = 8) (hb : b.length = 8) (w : World) : (Op.equalIn 10000 44 (.agg (vs a)) (.agg (vs b))).run Try.prog w = .ok (a == b) w := by
  obtain ⟨i0, hi0⟩ : ∃ i, Try.prog.info? 39 = some i := Option.isSome_iff_exists.1 (by kernel_rfl)
  exact eq_ints_array w (k := .u64) Try.underlying44 hi0 Try.underlying39 (by kernel_rfl) a b ha hb
attribute [local go_sem] line_eq lit8
attribute [local go_sem ↓] vs_get

theorem lines_same (b o b' o' n c c' : Nat) (xs : List Int) (w : World) (h1 : Sl w 8 (some ⟨b, o, none⟩) n (xs.map (Value.int .u64))) (h2 : Sl w 8 (some ⟨b', o', none⟩) n (xs.map (Value.int .u64))) (hn : n ≤ 100000) :
    Calls Try.prog 11 #[.slice (some ⟨b, o, none⟩) n c, .slice (some ⟨b', o', none⟩) n c'] w fun e w' => e = .returned (.bool true) ∧ Chg [] w w' := by
  have H1 := Lib.hid h1
  have H2 := Lib.hid h2
  clear h1 h2
  go_enter Try.func11, Try.ntmps11
  go_wp2
  go_loopw [5] (fun i wr => ∃ k : Nat, k ≤ n ∧ i = .int .i64 k ∧ Chg [] w wr) (fun i _ => n - (intOf i).toNat)
  case atStart => exact ⟨0, by omega, rfl, Chg.refl _ _⟩
  case round =>
    obtain ⟨k, hk, rfl, hc⟩ := hrel
    by_cases hlt : k < n
    · obtain ⟨cs, t, f, hb, hi, hp, hl⟩ := (H1.out.chg hc (by simp)).line hlt
      obtain ⟨cs', t', f', hb', hi', hp', hl'⟩ := (H2.out.chg hc (by simp)).line hlt
      have g1 : (k : Int) < (n : Int) := by omega
      have g0 : (0 : Int) ≤ (k : Int) := by omega
      have g2 : (n : Int) ≤ 100000 := by omega
      go_wp2
      go_region
      all_goals
        go_wp2
        go_roundw
        case rel => exact ⟨k + 1, by omega, by go_num, hc.drew⟩
        case measure => simp [intOf]; omega
    · have : k = n := by omega
      subst this
      go_wp2
      go_ret
      exact ⟨rfl, hc⟩

end Go.Proofs.Ytnocekhgabgffaa
end
