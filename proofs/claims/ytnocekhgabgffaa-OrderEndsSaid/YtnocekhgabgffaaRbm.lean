/- The document's bus, and that both buses do alike: pure. No condition. -/
import Derived.Test.YtnocekhgabgffaaBlf
import Derived.Test.YtnocekhgabgffaaBki
import Derived.Test.YtnocekhgabgffaaBuw
namespace Go.Proofs.Ytnocekhgabgffaa
open Go.RowKit
set_option linter.unusedVariables false
set_option maxHeartbeats 1000000

/-! ### A core of the document's bus; the bus -/
structure Rc where
  L : List Be
  S : List (Int × Int)
  st : Bool
  lk : Bool
  pl : Int × Int
def rcZ : Rc := ⟨[], [], false, false, (0, 0)⟩
structure Rb where
  vol : Nat
  ls : List Int
  ks : List Int
  ps : List Int
  cs : List Rc
def Rb.core (R : Rb) (i : Nat) : Rc := R.cs.getD i rcZ
def Rb.setC (R : Rb) (i : Nat) (c : Rc) : Rb := { R with cs := R.cs.set i c }
def Rb.word (R : Rb) (l o : Nat) : Int := R.ls.getD (l * 8 + o) 0
def Rb.setW (R : Rb) (l o : Nat) (v : Int) : Rb := { R with ls := R.ls.set (l * 8 + o) v }
def zln : List Int := [0, 0, 0, 0, 0, 0, 0, 0]
def Rb.push (R : Rb) (l : Nat) : Rb := { R with ks := lnPut R.ks l (if l < R.vol then zln else ln R.ls l), ps := R.ps.set l (R.ps.getD l 0 + 1) }
def Rb.fail (R : Rb) : Rb := { R with ls := forget R.ks R.vol, cs := List.replicate R.cs.length rcZ }
/-- The stores of a word in a buffer. -/
def atP (l o : Int) (y : Be) : Bool := !y.fl && (decide (y.li = l) && decide (y.wo = o))
def stsAt (l o : Int) (buf : List Be) : List Int := (buf.filter (atP l o)).map Be.va
def ownR (buf : List Be) (l o : Int) : Option Int := (stsAt l o buf).getLast?
def firstR (c : Rc) (x : Be) : Bool := c.L.head? == some x
/-- The first flush of a line that was not answered. -/
def sentI : List (Int × Int) → Int → Option Nat
  | [], _ => none
  | p :: S, l => if p.1 = l then some 0 else (sentI S l).map (· + 1)
theorem sentI_none {l : Int} : ∀ {S : List (Int × Int)}, sentI S l = none → (S.filter fun p => decide (p.1 = l)) = []
  | [], _ => rfl
  | p :: S, h => by
    unfold sentI at h
    split at h
    · cases h
    · rename_i hp
      rw [List.filter_cons, if_neg (by simpa using hp)]
      exact sentI_none (Option.map_eq_none_iff.1 h)
theorem sentI_some {l : Int} : ∀ {S : List (Int × Int)} {k : Nat}, sentI S l = some k → ∃ A p B, S = A ++ (l, p) :: B ∧ A.length = k ∧ ∀ x ∈ A, x.1 ≠ l
  | [], k, h => by cases h
  | q :: S, k, h => by
    unfold sentI at h
    split at h
    · rename_i hq
      cases h
      exact ⟨[], q.2, S, by rw [← hq]; rfl, rfl, by simp⟩
    · rename_i hq
      obtain ⟨j, hj, rfl⟩ := Option.map_eq_some_iff.1 h
      obtain ⟨A, p, B, rfl, rfl, hA⟩ := sentI_some hj
      exact ⟨q :: A, p, B, rfl, rfl, fun x hx => by
        rcases List.mem_cons.1 hx with rfl | hx
        · exact hq
        · exact hA x hx⟩
def calmR (c : Rc) : Bool := c.L.isEmpty && c.S.isEmpty
def mayR (R : Rb) (c : Rc) (e : Ev) : Bool :=
  if e.kd = 2 then ownR c.L e.li e.wo == some e.va
  else if e.kd = 1 then (ownR c.L e.li e.wo).isNone && R.word e.li.toNat e.wo.toNat == e.va
  else if e.kd = 4 then calmR c && R.word e.li.toNat e.wo.toNat == e.va
  else if e.kd = 7 then calmR c
  else if e.kd = 3 then firstR c (storeOf e) || (c.lk && (decide (c.pl.1 = e.li) && decide (c.pl.2 = e.wo)))
  else if e.kd = 13 then firstR c (flushOf e)
  else if e.kd = 6 then (match sentI c.S e.li with | none => false | some k => decide ((c.S.getD k (0, 0)).2 < R.ps.getD e.li.toNat 0))
  else true
def doneC (R : Rb) (c : Rc) (e : Ev) : Rc :=
  if e.kd = 12 then { c with L := c.L ++ [storeOf e] }
  else if e.kd = 14 then { c with L := c.L ++ [flushOf e] }
  else if e.kd = 3 then (if firstR c (storeOf e) then { c with L := c.L.tail } else c)
  else if e.kd = 13 then { c with L := c.L.tail, S := c.S ++ [(e.li, R.ps.getD e.li.toNat 0)] }
  else if e.kd = 6 then (match sentI c.S e.li with | none => c | some k => { c with S := c.S.take k ++ c.S.drop (k + 1) })
  else if e.kd = 9 ∨ e.kd = 10 then { c with st := true }
  else c
def lockC (c : Rc) (e : Ev) : Rc := { c with lk := decide (e.kd = 4), pl := if e.kd = 4 then (e.li, e.wo) else (0, 0) }
def runsR (kd : Int) : Bool := kd != 3 && (kd != 13 && kd != 6)
def doneR (R : Rb) (e : Ev) : Rb :=
  let i := e.co.toNat
  let R' := if e.kd = 3 then R.setW e.li.toNat e.wo.toNat e.va else R
  R'.setC i (lockC (doneC R (R.core i) e) e)
def hasR (R : Rb) (e : Ev) : Bool := kindB e.kd && ((!namesC e.kd || isOfB e.co R.cs.length) && (!namesL e.kd || isOfB e.li R.ps.length) && (!namesW e.kd || isOfB e.wo 8))
def doR (R : Rb) (e : Ev) : Option Rb :=
  if hasR R e then
    (if e.kd = 5 then some (R.push e.li.toNat)
    else if e.kd = 11 then some R.fail
    else if (runsR e.kd && (R.core e.co.toNat).st) || !(mayR R (R.core e.co.toNat) e) then none
    else some (doneR R e))
  else none

/-! ### Both are alike -/
structure SmI (c : Bc) : Prop where
  nd : (c.sm.map (·.1)).Nodup
  at' : ∀ l o, lookA (l, o) c.sm = if stsAt l o c.buf = [] then none else some (((stsAt l o c.buf).length : Int), (stsAt l o c.buf).getLastD 0)
structure CSim0 (c : Bc) (r : Rc) : Prop where
  buf : r.L = c.buf
  sm : SmI c
  nd : (c.tm.map (·.1)).Nodup
  full : Full c
  tm : ∀ l, sentOf c l = (r.S.filter fun p => decide (p.1 = l)).map (·.2)
  st : r.st = c.st
structure CSim (c : Bc) (r : Rc) : Prop extends CSim0 c r where
  lk : r.lk = decide (c.la.kd = 4)
  pl : c.la.kd = 4 → r.pl = (c.la.li, c.la.wo)
structure Sim (n m : Nat) (S : Bs) (R : Rb) : Prop where
  vol : R.vol = S.vol
  ls : R.ls = S.ls
  ks : R.ks = S.ks
  ps : R.ps = S.ps
  lc : R.cs.length = m
  cs : ∀ i, i < m → CSim (S.core i) (R.core i)
  kz : ∀ l, l < S.vol → ln S.ks l = zln
  le : ∀ i, i < m → ∀ l p, (l, p) ∈ (R.core i).S → 0 ≤ l ∧ l < n ∧ p ≤ S.ps.getD l.toNat 0
theorem csim_zero : CSim bcZ rcZ := ⟨⟨rfl, ⟨by simp [bcZ], fun l o => by simp [bcZ, lookA, stsAt]⟩, by simp [bcZ], by simp [Full, bcZ], fun l => by simp [sentOf, bcZ, rcZ, lookA], rfl⟩, rfl, fun h => by simp [bcZ, evZ] at h⟩
theorem CSim.isNone {c : Bc} {r : Rc} (h : CSim c r) (l o : Int) : (ownR r.L l o).isNone = (lookA (l, o) c.sm).isNone := by
  unfold ownR
  rw [h.buf, h.sm.at' l o]
  cases e : stsAt l o c.buf with
  | nil => simp
  | cons x xs => simp
theorem CSim.own {c : Bc} {r : Rc} (h : CSim c r) (l o v : Int) : (ownR r.L l o == some v) = ((lookA (l, o) c.sm).isSome && (newO c.sm (l, o)).2 == v) := by
  unfold ownR newO
  rw [h.buf, h.sm.at' l o]
  cases e : stsAt l o c.buf with
  | nil => simp
  | cons x xs =>
    rw [if_neg (by simp), List.getLast?_eq_some_getLast (by simp)]
    simp [List.getLastD_eq_getLast?, List.getLast?_eq_some_getLast]
theorem CSim.calm {c : Bc} {r : Rc} (h : CSim c r) : calmR r = c.settled := by
  unfold calmR Bc.settled
  rw [h.buf]
  congr 1
  cases e : r.S with
  | nil =>
    cases e2 : c.tm with
    | nil => rfl
    | cons p q =>
      exfalso
      have h1 := h.tm p.1
      rw [e] at h1
      have h2 := h.full p (by rw [e2]; simp)
      apply h2
      have h3 : sentOf c p.1 = p.2 := by unfold sentOf; rw [e2]; simp [lookA]
      rw [← h3, h1]; rfl
  | cons p q =>
    cases e2 : c.tm with
    | nil =>
      exfalso
      have h1 := h.tm p.1
      rw [e] at h1
      have h3 : sentOf c p.1 = [] := by unfold sentOf; rw [e2]; rfl
      rw [h3] at h1
      simp at h1
    | cons _ _ => rfl
theorem CSim.locks {c : Bc} {r : Rc} (h : CSim c r) (l o : Int) : (r.lk && (decide (r.pl.1 = l) && decide (r.pl.2 = o))) = c.locks l o := by
  unfold Bc.locks
  rw [h.lk]
  by_cases hk : c.la.kd = 4
  · rw [h.pl hk]; simp [hk]; rfl
  · simp [hk]
theorem CSim.first {c : Bc} {r : Rc} (h : CSim c r) (x : Be) : firstR r x = (c.takeE x).isSome := by
  unfold firstR Bc.takeE
  rw [h.buf]
  cases c.buf with
  | nil => rfl
  | cons y l =>
    by_cases e : y = x
    · subst e; simp
    · simp [e]
theorem stsAt_app (l o : Int) (a b : List Be) : stsAt l o (a ++ b) = stsAt l o a ++ stsAt l o b := by simp [stsAt]
theorem stsAt_one (l o : Int) (x : Be) : stsAt l o [x] = if atP l o x then [x.va] else [] := by
  unfold stsAt
  cases h : atP l o x <;> simp [h]
theorem stsAt_cons (l o : Int) (x : Be) (xs : List Be) : stsAt l o (x :: xs) = (if atP l o x then [x.va] else []) ++ stsAt l o xs := by
  rw [← stsAt_one]; exact stsAt_app l o [x] xs
theorem lastD_app (xs : List Int) (v : Int) : (xs ++ [v]).getLastD 0 = v := by rw [List.getLastD_eq_getLast?, List.getLast?_concat]; rfl
theorem SmI.put {c : Bc} (h : SmI c) (x : Be) : SmI (c.putE x) := by
  unfold Bc.putE
  by_cases hf : x.fl = true
  · refine ⟨by simp only [hf, if_true]; exact h.nd, fun l o => ?_⟩
    simp only [hf, if_true]
    rw [stsAt_app, stsAt_one, show atP l o x = false by simp [atP, hf], if_neg (by simp : ¬ (false = true)), List.append_nil]
    exact h.at' l o
  · refine ⟨by simp only [hf]; exact keys_put h.nd, fun l o => ?_⟩
    simp only [hf]
    show lookA (l, o) (putA (x.li, x.wo) _ c.sm) = _
    rw [lookA_put, stsAt_app, stsAt_one]
    by_cases hk : (l, o) = (x.li, x.wo)
    · obtain ⟨rfl, rfl⟩ := Prod.mk.inj hk
      rw [if_pos rfl, show atP x.li x.wo x = true by simp [atP, hf], if_pos rfl, if_neg (by simp), lastD_app]
      unfold newO
      rw [h.at' x.li x.wo]
      cases stsAt x.li x.wo c.buf with
      | nil => simp
      | cons y ys => simp
    · have : atP l o x = false := by
        simp only [atP, Bool.and_eq_false_iff, decide_eq_false_iff_not]
        right
        by_cases h1 : x.li = l
        · right; intro h2; exact hk (by rw [h1, h2])
        · left; exact h1
      rw [if_neg hk, this, if_neg (by simp : ¬ (false = true)), List.append_nil]
      exact h.at' l o
theorem SmI.take {c c' : Bc} (h : SmI c) {x : Be} (ht : c.takeE x = some c') : SmI c' ∧ c'.buf = c.buf.tail ∧ c'.tm = c.tm ∧ c'.st = c.st ∧ c'.la = c.la := by
  unfold Bc.takeE at ht
  cases hb : c.buf with
  | nil => rw [hb] at ht; cases ht
  | cons y q =>
    rw [hb] at ht
    simp only at ht
    split at ht
    · rename_i hy
      subst hy
      cases ht
      refine ⟨?_, rfl, rfl, rfl, rfl⟩
      by_cases hf : y.fl = true
      · refine ⟨by simp only [hf, if_true]; exact h.nd, fun l o => ?_⟩
        simp only [hf, if_true]
        rw [h.at' l o, hb, stsAt_cons, show atP l o y = false by simp [atP, hf], if_neg (by simp : ¬ (false = true)), List.nil_append]
      · have hv := h.at' y.li y.wo
        rw [hb, stsAt_cons, show atP y.li y.wo y = true by simp [atP, hf], if_pos rfl, if_neg (by simp)] at hv
        have hn : newO c.sm (y.li, y.wo) = (((y.va :: stsAt y.li y.wo q).length : Int), (y.va :: stsAt y.li y.wo q).getLastD 0) := by
          unfold newO; rw [hv]; rfl
        refine ⟨?_, fun l o => ?_⟩
        · simp only [hf]
          show ((takeSm c.sm (y.li, y.wo)).map (·.1)).Nodup
          unfold takeSm
          split
          · exact keys_drop (keys_put h.nd)
          · exact keys_put h.nd
        · simp only [hf]
          show lookA (l, o) (takeSm c.sm (y.li, y.wo)) = _
          unfold takeSm
          rw [hn]
          by_cases hk : (l, o) = (y.li, y.wo)
          · obtain ⟨rfl, rfl⟩ := Prod.mk.inj hk
            cases hq : stsAt y.li y.wo q with
            | nil =>
              simp only [List.length_cons, List.length_nil]
              rw [if_pos (by omega), lookA_drop _ (keys_put h.nd), if_pos rfl]; simp
            | cons z zs =>
              simp only [List.length_cons]
              rw [if_neg (by omega), lookA_put, if_pos rfl, if_neg (by simp)]
              congr 1
              refine Prod.ext ?_ ?_
              · simp
              · simp
          · have h2 : atP l o y = false := by
              simp only [atP, Bool.and_eq_false_iff, decide_eq_false_iff_not]
              right
              by_cases h1 : y.li = l
              · right; intro h2; exact hk (by rw [h1, h2])
              · left; exact h1
            have h3 := h.at' l o
            rw [hb, stsAt_cons, h2, if_neg (by simp : ¬ (false = true)), List.nil_append] at h3
            split
            · rw [lookA_drop _ (keys_put h.nd), if_neg hk, lookA_put, if_neg hk, h3]
            · rw [lookA_put, if_neg hk, h3]
    · cases ht

theorem CSim0.lock {c : Bc} {r : Rc} (h : CSim0 c r) (e : Ev) : CSim { c with la := e } (lockC r e) :=
  ⟨⟨h.buf, ⟨h.sm.nd, h.sm.at'⟩, h.nd, h.full, h.tm, h.st⟩, rfl, fun hk => by
    show (if e.kd = 4 then (e.li, e.wo) else (0, 0)) = _
    rw [if_pos hk]⟩
theorem CSim0.put {c : Bc} {r : Rc} (h : CSim0 c r) (x : Be) : CSim0 (c.putE x) { r with L := r.L ++ [x] } :=
  ⟨by show r.L ++ [x] = c.buf ++ [x]; rw [h.buf], h.sm.put x, h.nd, h.full, h.tm, h.st⟩
theorem CSim0.take {c c' : Bc} {r : Rc} (h : CSim0 c r) {x : Be} (ht : c.takeE x = some c') : CSim0 c' { r with L := r.L.tail } := by
  obtain ⟨h1, h2, h3, h4, h5⟩ := h.sm.take ht
  refine ⟨by show r.L.tail = c'.buf; rw [h2, h.buf], h1, by rw [h3]; exact h.nd, by unfold Full; rw [h3]; exact h.full, fun l => ?_, by rw [h4]; exact h.st⟩
  rw [← h.tm l]; unfold sentOf; rw [h3]
theorem CSim0.send {c : Bc} {r : Rc} (h : CSim0 c r) (l p : Int) : CSim0 (c.sendE l p) { r with S := r.S ++ [(l, p)] } := by
  refine ⟨h.buf, ⟨h.sm.nd, h.sm.at'⟩, keys_put h.nd, full_send h.full l p, fun l' => ?_, h.st⟩
  rw [sent_send, List.filter_append, List.map_append]
  by_cases hl : l' = l
  · subst hl
    rw [if_pos rfl, h.tm l']
    simp
  · rw [if_neg hl, h.tm l']
    simp [Ne.symm hl]
theorem CSim0.ans {c : Bc} {r : Rc} (h : CSim0 c r) {l : Int} {k : Nat} (hk : sentI r.S l = some k) : CSim0 (c.ansE l) { r with S := r.S.take k ++ r.S.drop (k + 1) } := by
  obtain ⟨A, p, B, hS, hA, hn⟩ := sentI_some hk
  have hd : r.S.take k ++ r.S.drop (k + 1) = A ++ B := by
    rw [hS, ← hA, List.take_left]
    congr 1
    rw [List.drop_append, List.drop_eq_nil_of_le (by omega), List.nil_append, show A.length + 1 - A.length = 1 by omega]
    rfl
  have hfA : (A.filter fun x => decide (x.1 = l)) = [] := List.filter_eq_nil_iff.2 (fun x hx => by simpa using hn x hx)
  have h0 : sentOf c l = p :: ((B.filter fun x => decide (x.1 = l)).map (·.2)) := by
    rw [h.tm l, hS, List.filter_append, hfA]; simp
  refine ⟨h.buf, ⟨h.sm.nd, h.sm.at'⟩, keys_ans h.nd l, full_ans h.full (l := l) (by rw [h0]; simp), fun l' => ?_, h.st⟩
  rw [sent_ans h.nd]
  show _ = ((r.S.take k ++ r.S.drop (k + 1)).filter fun x => decide (x.1 = l')).map (·.2)
  rw [hd, List.filter_append, List.map_append]
  by_cases hl : l' = l
  · subst hl
    rw [if_pos rfl, h0, hfA]; rfl
  · rw [if_neg hl, h.tm l', hS, List.filter_append, List.map_append]
    congr 1
    rw [List.filter_cons, if_neg (by simpa using Ne.symm hl)]
/-- The flush that may be answered. -/
theorem CSim0.may {c : Bc} {r : Rc} (h : CSim0 c r) {l P : Int} (hle : ∀ p, (l, p) ∈ r.S → p ≤ P) : (match sentI r.S l with | none => false | some k => decide ((r.S.getD k (0, 0)).2 < P)) = !decide ((sentOf c l).length = 0 ∨ (sentOf c l).headD 0 = P) := by
  cases hk : sentI r.S l with
  | none =>
    have := sentI_none hk
    rw [h.tm l, this]; rfl
  | some k =>
    obtain ⟨A, p, B, hS, hA, hn⟩ := sentI_some hk
    have hfA : (A.filter fun x => decide (x.1 = l)) = [] := List.filter_eq_nil_iff.2 (fun x hx => by simpa using hn x hx)
    have h0 : sentOf c l = p :: ((B.filter fun x => decide (x.1 = l)).map (·.2)) := by
      rw [h.tm l, hS, List.filter_append, hfA]; simp
    have hp : (r.S.getD k (0, 0)).2 = p := by
      rw [hS, ← hA, List.getD_eq_getElem?_getD, List.getElem?_append_right (Nat.le_refl _), Nat.sub_self]; rfl
    have := hle p (by rw [hS]; simp)
    simp only [hp, h0, List.length_cons, List.headD_cons]
    by_cases e : p = P
    · subst e; simp
    · have : p < P := by omega
      simp [e, this]
theorem rcore_setC {R : Rb} {i : Nat} (h : i < R.cs.length) (c : Rc) (k : Nat) : (R.setC i c).core k = if k = i then c else R.core k := by
  unfold Rb.core Rb.setC
  by_cases e : k = i
  · subst e; rw [if_pos rfl, List.getD_eq_getElem?_getD, List.getElem?_set_self h]; rfl
  · rw [if_neg e, List.getD_eq_getElem?_getD, List.getElem?_set_ne (Ne.symm e), ← List.getD_eq_getElem?_getD]
section
variable {n m N : Nat} {S T : Bs} {R : Rb}
theorem Sim.core (h : Sim n m S R) (hcs : S.cs.length = m) {i : Nat} (hi : i < m) {c : Bc} {r : Rc} (hc : CSim c r) (hS : ∀ l p, (l, p) ∈ r.S → 0 ≤ l ∧ l < n ∧ p ≤ S.ps.getD l.toNat 0) : Sim n m (S.setC i c) (R.setC i r) := by
  refine ⟨h.vol, h.ls, h.ks, h.ps, by simp [Rb.setC, h.lc], fun k hk => ?_, h.kz, fun k hk l p hp => ?_⟩
  · rw [core_setC (by omega), rcore_setC (by have := h.lc; omega)]
    split
    · exact hc
    · exact h.cs k hk
  · rw [rcore_setC (by have := h.lc; omega)] at hp
    split at hp
    · exact hS l p hp
    · exact h.le k hk l p hp
theorem Sim.setW (h : Sim n m S R) (l o : Nat) (v : Int) : Sim n m (S.setW l o v) (R.setW l o v) :=
  ⟨h.vol, by show R.ls.set _ _ = S.ls.set _ _; rw [h.ls], h.ks, h.ps, h.lc, h.cs, h.kz, h.le⟩
theorem lnPut_same {xs : List Int} {l : Nat} {y : List Int} (h : ln xs l = y) (hl : (l + 1) * 8 ≤ xs.length) : lnPut xs l y = xs := by
  subst h
  unfold lnPut splice ln
  have e1 : (List.take 8 (List.drop (l * 8) xs)).length = 8 := by simp; omega
  rw [e1, List.append_assoc]
  have e2 : List.take 8 (List.drop (l * 8) xs) ++ List.drop (l * 8 + 8) xs = List.drop (l * 8) xs := by
    rw [← List.drop_drop, List.take_append_drop]
  rw [e2, List.take_append_drop]
theorem forget_same {xs : List Int} : ∀ {v : Nat}, v * 8 ≤ xs.length → (∀ l, l < v → ln xs l = zln) → forget xs v = xs
  | 0, _, _ => forget_zero xs
  | v + 1, h, hz => by
    have ih := forget_same (xs := xs) (v := v) (by omega) (fun l hl => hz l (by omega))
    rw [← forget_succ xs v h, ih]
    exact lnPut_same (hz v (by omega)) h
theorem Sim.push (ok : S.Ok n m N) (h : Sim n m S R) {l : Nat} (hl : l < n) : Sim n m (S.push l) (R.push l) := by
  have f1 : Fit (l * 8) 8 S.ls.length := by have := ok.ls; unfold Fit; omega
  have f2 : Fit (l * 8) 8 S.ks.length := by have := ok.ks; unfold Fit; omega
  refine ⟨h.vol, h.ls, ?_, by show R.ps.set _ _ = S.ps.set _ _; rw [h.ps], h.lc, h.cs, fun k hk => ?_, fun i hi k p hp => ?_⟩
  · show lnPut R.ks l (if l < R.vol then zln else ln R.ls l) = if S.vol ≤ l then lnPut S.ks l (ln S.ls l) else S.ks
    rw [h.ks, h.vol, h.ls]
    by_cases hv : S.vol ≤ l
    · rw [if_pos hv, if_neg (by omega)]
    · rw [if_neg hv, if_pos (by omega)]
      exact lnPut_same (h.kz l (by omega)) (by have := ok.ks; omega)
  · show ln (if S.vol ≤ l then lnPut S.ks l (ln S.ls l) else S.ks) k = zln
    split
    · rename_i hv
      have : k < S.vol := hk
      rw [ln_put_other _ _ _ _ f2 (ln_length _ _ f1) (by omega)]
      exact h.kz k this
    · exact h.kz k hk
  · obtain ⟨h1, h2, h3⟩ := h.le i hi k p hp
    refine ⟨h1, h2, ?_⟩
    show p ≤ (S.ps.set l (S.ps.getD l 0 + 1)).getD k.toNat 0
    by_cases hk : k.toNat = l
    · rw [hk] at h3 ⊢
      rw [List.getD_eq_getElem?_getD, List.getElem?_set_self (by rw [ok.ps]; exact hl)]
      simp only [Option.getD_some]; omega
    · rw [List.getD_eq_getElem?_getD, List.getElem?_set_ne (Ne.symm hk), ← List.getD_eq_getElem?_getD]; exact h3
theorem rcore_rep (k i : Nat) : ({ R with cs := List.replicate k rcZ } : Rb).core i = rcZ := by
  unfold Rb.core
  rw [List.getD_eq_getElem?_getD]
  simp only [List.getElem?_replicate]
  split <;> rfl
theorem Sim.fail (ok : S.Ok n m N) (h : Sim n m S R) : Sim n m S.fail R.fail := by
  have hv := ok.vol
  refine ⟨h.vol, ?_, h.ks, h.ps, by simp [Rb.fail, h.lc], fun i hi => ?_, h.kz, fun i hi l p hp => ?_⟩
  · show forget R.ks R.vol = S.ks
    rw [h.ks, h.vol]
    exact forget_same (by have := ok.ks; omega) h.kz
  · rw [fail_core]
    show CSim bcZ (({ R with ls := forget R.ks R.vol, cs := List.replicate R.cs.length rcZ } : Rb).core i)
    have : (({ R with ls := forget R.ks R.vol, cs := List.replicate R.cs.length rcZ } : Rb).core i) = rcZ := rcore_rep (R := { R with ls := forget R.ks R.vol }) R.cs.length i
    rw [this]; exact csim_zero
  · have : R.fail.core i = rcZ := rcore_rep (R := { R with ls := forget R.ks R.vol }) R.cs.length i
    rw [this] at hp; cases hp
theorem last_setC {i : Nat} (hi : i < S.cs.length) (c : Bc) {e : Ev} (he : e.co.toNat = i) (hn : namesC e.kd = true) : lastB (S.setC i c) e = S.setC i { c with la := e } := by
  unfold lastB
  rw [if_pos hn]
  unfold Bs.last
  rw [he, core_setC hi, if_pos rfl]
  unfold Bs.setC
  rw [List.set_set]
theorem bsetC_core {i : Nat} (hi : i < S.cs.length) : S.setC i (S.core i) = S := by
  unfold Bs.setC Bs.core
  have : S.cs.set i (S.cs.getD i bcZ) = S.cs := by
    rw [List.getD_eq_getElem?_getD, List.getElem?_eq_getElem hi]
    simp
  rw [this]
theorem last_same {i : Nat} (hi : i < S.cs.length) {e : Ev} (he : e.co.toNat = i) (hn : namesC e.kd = true) : lastB S e = S.setC i { S.core i with la := e } := by
  have := last_setC hi (S.core i) he hn
  rwa [bsetC_core hi] at this
/-- Both do alike. -/
def Alike (n m : Nat) : Option Bs → Option Rb → Prop
  | some S, some R => Sim n m S R
  | none, none => True
  | _, _ => False
theorem alike_if {b b' : Bool} (hb : b = b') {S : Bs} {R : Rb} (h : b = true → Sim n m S R) : Alike n m (if b then some S else none) (if b' then some R else none) := by
  subst hb
  cases b
  · trivial
  · exact h rfl
theorem has_sim (ok : S.Ok n m N) (h : Sim n m S R) (e : Ev) : hasR R e = (kindB e.kd && hasB S e) := by
  unfold hasR hasB
  rw [h.lc, ok.cs, h.ps]

theorem Sim.act (ok : S.Ok n m N) (h : Sim n m S R) {i : Nat} (hi : i < m) {e : Ev} (he : e.co.toNat = i) (hn : namesC e.kd = true) {c : Bc} {r : Rc} (hc : CSim0 c r) (hS : ∀ l p, (l, p) ∈ r.S → 0 ≤ l ∧ l < n ∧ p ≤ S.ps.getD l.toNat 0) : Sim n m (lastB (S.setC i c) e) (R.setC i (lockC r e)) := by
  have hcs := ok.cs
  rw [last_setC (by omega) c he hn]
  exact h.core hcs hi (hc.lock e) hS
theorem Sim.stay (ok : S.Ok n m N) (h : Sim n m S R) {i : Nat} (hi : i < m) {e : Ev} (he : e.co.toNat = i) (hn : namesC e.kd = true) : Sim n m (lastB S e) (R.setC i (lockC (R.core i) e)) := by
  have hcs := ok.cs
  have := h.act ok hi he hn (h.cs i hi).toCSim0 (h.le i hi)
  rwa [bsetC_core (by omega)] at this
theorem alike_map {p q : Bool} {U : Bs} {V : Rb} {e : Ev} (hpq : q = !p) (hs : p = true → Sim n m (lastB U e) V) : Alike n m (Option.map (fun T => lastB T e) (if p then some U else none)) (if q then none else some V) := by
  subst hpq
  cases p
  · trivial
  · exact hs rfl
theorem sim_do (ok : S.Ok n m N) (h : Sim n m S R) (e : Ev) : Alike n m (doB S e) (doR R e) := by
  unfold doB doR
  rw [has_sim ok h]
  cases hb : (kindB e.kd && hasB S e) with
  | false => trivial
  | true =>
    simp only [if_true]
    simp only [Bool.and_eq_true] at hb
    obtain ⟨hk, hh⟩ := hb
    have hkd : e.kd = 1 ∨ e.kd = 2 ∨ e.kd = 3 ∨ e.kd = 4 ∨ e.kd = 5 ∨ e.kd = 6 ∨ e.kd = 7 ∨ e.kd = 8 ∨ e.kd = 9 ∨ e.kd = 10 ∨ e.kd = 11 ∨ e.kd = 12 ∨ e.kd = 13 ∨ e.kd = 14 := by
      unfold kindB at hk
      have : 1 ≤ e.kd ∧ e.kd ≤ 14 := by simpa using hk
      omega
    unfold hasB at hh
    simp only [ok.cs, ok.ps, Bool.and_eq_true, Bool.or_eq_true, Bool.not_eq_true'] at hh
    obtain ⟨⟨hC, hL⟩, hW⟩ := hh
    have bC : namesC e.kd = true → e.co.toNat < m := fun hn => by
      rcases hC with hC | hC
      · rw [hC] at hn; cases hn
      · unfold isOfB at hC; simp at hC; omega
    have bL : namesL e.kd = true → 0 ≤ e.li ∧ e.li < n := fun hn => by
      rcases hL with hL | hL
      · rw [hL] at hn; cases hn
      · unfold isOfB at hL; simp at hL; omega
    have hcs := ok.cs
    have hw : ∀ l o, R.word l o = S.word l o := fun l o => by unfold Rb.word Bs.word; rw [h.ls]
    clear hC hL hW hk
    obtain ⟨kd, co, li, wo, va⟩ := e
    simp only at hkd bC bL ⊢
    have he : (⟨kd, co, li, wo, va⟩ : Ev).co.toNat = co.toNat := rfl
    rcases hkd with rfl | rfl | rfl | rfl | rfl | rfl | rfl | rfl | rfl | rfl | rfl | rfl | rfl | rfl
    · have hi := bC rfl
      have hc := h.cs _ hi
      show Alike n m (Option.map (fun T => lastB T ⟨1, co, li, wo, va⟩) (if !(S.core co.toNat).st && ((lookA (li, wo) (S.core co.toNat).sm).isNone && S.word li.toNat wo.toNat == va) then some S else none)) (if (true && (R.core co.toNat).st) || !((ownR (R.core co.toNat).L li wo).isNone && R.word li.toNat wo.toNat == va) then none else some (R.setC co.toNat (lockC (R.core co.toNat) ⟨1, co, li, wo, va⟩)))
      exact alike_map (by rw [hc.st, hc.isNone, hw]; cases (S.core co.toNat).st <;> simp) (fun _ => h.stay ok hi rfl rfl)
    · have hi := bC rfl
      have hc := h.cs _ hi
      show Alike n m (Option.map (fun T => lastB T ⟨2, co, li, wo, va⟩) (if !(S.core co.toNat).st && ((lookA (li, wo) (S.core co.toNat).sm).isSome && (newO (S.core co.toNat).sm (li, wo)).2 == va) then some S else none)) (if (true && (R.core co.toNat).st) || !(ownR (R.core co.toNat).L li wo == some va) then none else some (R.setC co.toNat (lockC (R.core co.toNat) ⟨2, co, li, wo, va⟩)))
      exact alike_map (by rw [hc.st, hc.own]; cases (S.core co.toNat).st <;> simp) (fun _ => h.stay ok hi rfl rfl)
    · have hi := bC rfl
      have hc := h.cs _ hi
      have hf := hc.first (storeOf ⟨3, co, li, wo, va⟩)
      have hl := hc.locks li wo
      show Alike n m (Option.map (fun T => lastB T ⟨3, co, li, wo, va⟩) (match (S.core co.toNat).takeE (storeOf ⟨3, co, li, wo, va⟩) with
        | some c' => some ((S.setC co.toNat c').setW li.toNat wo.toNat va)
        | none => if (S.core co.toNat).locks li wo then some (S.setW li.toNat wo.toNat va) else none)) (if (false && (R.core co.toNat).st) || !(firstR (R.core co.toNat) (storeOf ⟨3, co, li, wo, va⟩) || ((R.core co.toNat).lk && (decide ((R.core co.toNat).pl.1 = li) && decide ((R.core co.toNat).pl.2 = wo)))) then none else some ((R.setW li.toNat wo.toNat va).setC co.toNat (lockC (if firstR (R.core co.toNat) (storeOf ⟨3, co, li, wo, va⟩) then { R.core co.toNat with L := (R.core co.toNat).L.tail } else R.core co.toNat) ⟨3, co, li, wo, va⟩)))
      rw [hf, hl]
      have okW := ok.setW li.toNat wo.toNat va
      have hW' := h.setW li.toNat wo.toNat va
      cases ht : (S.core co.toNat).takeE (storeOf ⟨3, co, li, wo, va⟩) with
      | some c' => exact hW'.act okW hi (e := ⟨3, co, li, wo, va⟩) rfl rfl (hc.toCSim0.take ht) (h.le _ hi)
      | none =>
        cases (S.core co.toNat).locks li wo
        · trivial
        · exact hW'.stay okW hi (e := ⟨3, co, li, wo, va⟩) rfl rfl
    · have hi := bC rfl
      have hc := h.cs _ hi
      show Alike n m (Option.map (fun T => lastB T ⟨4, co, li, wo, va⟩) (if (!(S.core co.toNat).st && (S.core co.toNat).settled) && S.word li.toNat wo.toNat == va then some S else none)) (if (true && (R.core co.toNat).st) || !(calmR (R.core co.toNat) && R.word li.toNat wo.toNat == va) then none else some (R.setC co.toNat (lockC (R.core co.toNat) ⟨4, co, li, wo, va⟩)))
      exact alike_map (by rw [hc.st, hc.calm, hw]; cases (S.core co.toNat).st <;> simp) (fun _ => h.stay ok hi rfl rfl)
    · exact h.push ok (l := li.toNat) (by have := bL rfl; omega)
    · have hi := bC rfl
      have hc := h.cs _ hi
      have hl := bL rfl
      have hm := hc.may (l := li) (P := R.ps.getD li.toNat 0) (fun p hp => by rw [h.ps]; exact (h.le _ hi li p hp).2.2)
      show Alike n m (Option.map (fun T => lastB T ⟨6, co, li, wo, va⟩) (if (sentOf (S.core co.toNat) li).length = 0 ∨ (sentOf (S.core co.toNat) li).headD 0 = S.ps.getD li.toNat 0 then none else some (S.setC co.toNat ((S.core co.toNat).ansE li)))) (if (false && (R.core co.toNat).st) || !(match sentI (R.core co.toNat).S li with | none => false | some k => decide (((R.core co.toNat).S.getD k (0, 0)).2 < R.ps.getD li.toNat 0)) then none else some (R.setC co.toNat (lockC (match sentI (R.core co.toNat).S li with | none => R.core co.toNat | some k => { R.core co.toNat with S := (R.core co.toNat).S.take k ++ (R.core co.toNat).S.drop (k + 1) }) ⟨6, co, li, wo, va⟩)))
      rw [hm, h.ps]
      by_cases hp : (sentOf (S.core co.toNat) li).length = 0 ∨ (sentOf (S.core co.toNat) li).headD 0 = S.ps.getD li.toNat 0
      · rw [if_pos hp]
        simp only [hp, decide_true]
        trivial
      · rw [if_neg hp]
        simp only [hp, decide_false]
        cases hs : sentI (R.core co.toNat).S li with
        | none =>
          exfalso
          apply hp
          left
          rw [hc.tm li, sentI_none hs]; rfl
        | some k =>
          refine h.act ok hi (e := ⟨6, co, li, wo, va⟩) rfl rfl (hc.toCSim0.ans hs) (fun l p hp => h.le _ hi l p ?_)
          rcases List.mem_append.1 hp with hp | hp
          · exact List.mem_of_mem_take hp
          · exact List.mem_of_mem_drop hp
    · have hi := bC rfl
      have hc := h.cs _ hi
      show Alike n m (Option.map (fun T => lastB T ⟨7, co, li, wo, va⟩) (if !(S.core co.toNat).st && (S.core co.toNat).settled then some S else none)) (if (true && (R.core co.toNat).st) || !(calmR (R.core co.toNat)) then none else some (R.setC co.toNat (lockC (R.core co.toNat) ⟨7, co, li, wo, va⟩)))
      exact alike_map (by rw [hc.st, hc.calm]; cases (S.core co.toNat).st <;> simp) (fun _ => h.stay ok hi rfl rfl)
    · have hi := bC rfl
      have hc := h.cs _ hi
      show Alike n m (Option.map (fun T => lastB T ⟨8, co, li, wo, va⟩) (if !(S.core co.toNat).st then some S else none)) (if (true && (R.core co.toNat).st) || !true then none else some (R.setC co.toNat (lockC (R.core co.toNat) ⟨8, co, li, wo, va⟩)))
      exact alike_map (by rw [hc.st]; cases (S.core co.toNat).st <;> simp) (fun _ => h.stay ok hi rfl rfl)
    · have hi := bC rfl
      have hc := h.cs _ hi
      show Alike n m (Option.map (fun T => lastB T ⟨9, co, li, wo, va⟩) (if !(S.core co.toNat).st then some (S.setC co.toNat { S.core co.toNat with st := true }) else none)) (if (true && (R.core co.toNat).st) || !true then none else some (R.setC co.toNat (lockC { R.core co.toNat with st := true } ⟨9, co, li, wo, va⟩)))
      exact alike_map (by rw [hc.st]; cases (S.core co.toNat).st <;> simp) (fun _ => h.act ok hi rfl rfl ⟨hc.buf, ⟨hc.sm.nd, hc.sm.at'⟩, hc.nd, hc.full, hc.tm, rfl⟩ (h.le _ hi))
    · have hi := bC rfl
      have hc := h.cs _ hi
      show Alike n m (Option.map (fun T => lastB T ⟨10, co, li, wo, va⟩) (if !(S.core co.toNat).st then some (S.setC co.toNat { S.core co.toNat with st := true }) else none)) (if (true && (R.core co.toNat).st) || !true then none else some (R.setC co.toNat (lockC { R.core co.toNat with st := true } ⟨10, co, li, wo, va⟩)))
      exact alike_map (by rw [hc.st]; cases (S.core co.toNat).st <;> simp) (fun _ => h.act ok hi rfl rfl ⟨hc.buf, ⟨hc.sm.nd, hc.sm.at'⟩, hc.nd, hc.full, hc.tm, rfl⟩ (h.le _ hi))
    · exact h.fail ok
    · have hi := bC rfl
      have hc := h.cs _ hi
      show Alike n m (Option.map (fun T => lastB T ⟨12, co, li, wo, va⟩) (if !(S.core co.toNat).st then some (S.setC co.toNat ((S.core co.toNat).putE (storeOf ⟨12, co, li, wo, va⟩))) else none)) (if (true && (R.core co.toNat).st) || !true then none else some (R.setC co.toNat (lockC { R.core co.toNat with L := (R.core co.toNat).L ++ [storeOf ⟨12, co, li, wo, va⟩] } ⟨12, co, li, wo, va⟩)))
      exact alike_map (by rw [hc.st]; cases (S.core co.toNat).st <;> simp) (fun _ => h.act ok hi rfl rfl (hc.toCSim0.put _) (h.le _ hi))
    · have hi := bC rfl
      have hc := h.cs _ hi
      have hl := bL rfl
      have hf := hc.first (flushOf ⟨13, co, li, wo, va⟩)
      show Alike n m (Option.map (fun T => lastB T ⟨13, co, li, wo, va⟩) (match (S.core co.toNat).takeE (flushOf ⟨13, co, li, wo, va⟩) with
        | some c' => some (S.setC co.toNat (c'.sendE li (S.ps.getD li.toNat 0)))
        | none => none)) (if (false && (R.core co.toNat).st) || !(firstR (R.core co.toNat) (flushOf ⟨13, co, li, wo, va⟩)) then none else some (R.setC co.toNat (lockC { R.core co.toNat with L := (R.core co.toNat).L.tail, S := (R.core co.toNat).S ++ [(li, R.ps.getD li.toNat 0)] } ⟨13, co, li, wo, va⟩)))
      rw [hf]
      cases ht : (S.core co.toNat).takeE (flushOf ⟨13, co, li, wo, va⟩) with
      | none => trivial
      | some c' =>
        rw [h.ps]
        refine h.act ok hi (e := ⟨13, co, li, wo, va⟩) rfl rfl ((hc.toCSim0.take ht).send li (S.ps.getD li.toNat 0)) (fun l p hp => ?_)
        rcases List.mem_append.1 hp with hp | hp
        · exact h.le _ hi l p hp
        · simp only [List.mem_singleton, Prod.mk.injEq] at hp
          obtain ⟨rfl, rfl⟩ := hp
          exact ⟨hl.1, hl.2, Int.le_refl _⟩
    · have hi := bC rfl
      have hc := h.cs _ hi
      show Alike n m (Option.map (fun T => lastB T ⟨14, co, li, wo, va⟩) (if !(S.core co.toNat).st then some (S.setC co.toNat ((S.core co.toNat).putE (flushOf ⟨14, co, li, wo, va⟩))) else none)) (if (true && (R.core co.toNat).st) || !true then none else some (R.setC co.toNat (lockC { R.core co.toNat with L := (R.core co.toNat).L ++ [flushOf ⟨14, co, li, wo, va⟩] } ⟨14, co, li, wo, va⟩)))
      exact alike_map (by rw [hc.st]; cases (S.core co.toNat).st <;> simp) (fun _ => h.act ok hi rfl rfl (hc.toCSim0.put _) (h.le _ hi))
/-! ### Runs -/
def trialB (S : Bs) : List Ev → Nat × Bs
  | [] => (0, S)
  | e :: l => match doB S e with
    | none => (0, S)
    | some T => ((trialB T l).1 + 1, (trialB T l).2)
theorem trialB_le : ∀ (l : List Ev) (S : Bs), (trialB S l).1 ≤ l.length
  | [], S => Nat.le_refl _
  | e :: l, S => by
    unfold trialB
    cases doB S e with
    | none => exact Nat.zero_le _
    | some T => have := trialB_le l T; simp; omega
theorem trialB_stop {S : Bs} {e : Ev} {l : List Ev} (h : doB S e = none) : trialB S (e :: l) = (0, S) := by show (match doB S e with | none => (0, S) | some T => ((trialB T l).1 + 1, (trialB T l).2)) = _; rw [h]
theorem trialB_go {S T : Bs} {e : Ev} {l : List Ev} (h : doB S e = some T) : trialB S (e :: l) = ((trialB T l).1 + 1, (trialB T l).2) := by show (match doB S e with | none => (0, S) | some T => ((trialB T l).1 + 1, (trialB T l).2)) = _; rw [h]
theorem trialB_ok : ∀ (l : List Ev) {S : Bs} {N : Nat}, S.Ok n m N → (trialB S l).2.Ok n m (N + (trialB S l).1)
  | [], S, N, h => h
  | e :: l, S, N, h => by
    cases hd : doB S e with
    | none => rw [trialB_stop hd]; exact h
    | some T =>
      have h1 := do_ok h e
      rw [hd] at h1
      have := trialB_ok l (show T.Ok n m (N + 1) from h1)
      rw [trialB_go hd]
      have e1 : N + ((trialB T l).1 + 1) = N + 1 + (trialB T l).1 := by omega
      rw [e1]; exact this
end
end Go.Proofs.Ytnocekhgabgffaa
