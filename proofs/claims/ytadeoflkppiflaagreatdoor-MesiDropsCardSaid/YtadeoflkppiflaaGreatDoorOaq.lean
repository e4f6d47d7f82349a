/- Texts of the walk, one behind the other: Pre Prf Mgf Mgh Wordc Mgj. No condition. -/
import Derived.Test.YtadeoflkppiflaaGreatDoorOam
import Derived.Test.YtadeoflkppiflaaGreatDoorOan
import Derived.Test.YtadeoflkppiflaaGreatDoorOao
import Derived.Test.YtadeoflkppiflaaGreatDoorOap
import Derived.BigGuard
import Derived.BigGuardPart
import Derived.BigQuiet
import Derived.ChangeKeysEq
import Derived.Deep.Cut
import Derived.Deep.CutBlock
import Derived.Deep.CutRange
import Derived.Deep.DeepCutAuto
import Derived.Deep.QuietTactic
import Derived.Deep.RegionHeld3
import Derived.Deep.RegionWith
import Derived.Laws.StructEq
section
namespace Go.Proofs.YtadeoflkppiflaaGreatDoor
open Go.RowKit
set_option linter.unusedVariables false
set_option maxHeartbeats 1000000

/-! ### What a step does, and tells -/
structure MDid where
  v : Int
  hit : Bool
  m : Ms
  e : Int
def did0 : MDid := ⟨0, false, msZ, 0⟩
def didE (e : Int) : MDid := ⟨0, false, msZ, e⟩
def lnG (X : List Int) (i : Nat) : List Int := if (ln X i).length = 8 then ln X i else zl8
theorem lnG_len (X : List Int) (i : Nat) : (lnG X i).length = 8 := by unfold lnG; split <;> first | assumption | rfl
theorem lnG_eq {X : List Int} {i : Nat} (h : (ln X i).length = 8) : lnG X i = ln X i := by unfold lnG; rw [if_pos h]
def portAt (c : Cg) (S : Mst) (k : Int) : Option Pt := if inB k c.co = true then S.ps[k.toNat]? else none
def Mst.put (S : Mst) (k : Int) (x : Pt) : Mst := ⟨S.ps.set k.toNat x, S.en, S.es, S.xs⟩
def loadM (c : Cg) (S : Mst) (k li wd : Int) : Mst × MDid :=
  match portAt c S k with
  | none => (S, did0)
  | some x => if inB li c.li = true then (S.put k { x with s := (loadF c.se c.wa x.s li wd).1, up := x.up ++ (loadF c.se c.wa x.s li wd).2.2.2 }, ⟨(loadF c.se c.wa x.s li wd).2.1, (loadF c.se c.wa x.s li wd).2.2.1, msZ, 0⟩) else (S, did0)
def storeM (c : Cg) (S : Mst) (k li wd v : Int) : Mst × MDid :=
  match portAt c S k with
  | none => (S, did0)
  | some x => if inB li c.li = true then (S.put k { x with s := (storeF c.se c.wa x.s li wd v).1, up := x.up ++ (storeF c.se c.wa x.s li wd v).2.2 }, ⟨0, (storeF c.se c.wa x.s li wd v).2.1, msZ, 0⟩) else (S, did0)
def reachM (c : Cg) (S : Mst) (k li : Int) : Mst × MDid :=
  match portAt c S k with
  | none => (S, did0)
  | some x => if inB li c.li = true then (if ownsB x.s.1 li = true then (S, ⟨0, true, msZ, 0⟩) else (S.put k { x with s := (reachF c.se c.wa x.s li).1, up := x.up ++ (reachF c.se c.wa x.s li).2 }, did0)) else (S, did0)
def flushM (c : Cg) (S : Mst) (k li kd : Int) : Mst × MDid :=
  match portAt c S k with
  | none => (S, didE 1)
  | some x => if inB li c.li = true ∧ (kd = 4 ∨ kd = 5) then (S.put k { x with up := x.up ++ [ms4 kd li false false] }, did0) else (S, didE 1)
def upM (c : Cg) (S : Mst) (k : Int) : Mst × MDid :=
  match portAt c S k with
  | none => (S, didE 1)
  | some x => match x.up with
    | [] => (S, didE 14)
    | m :: rest => match S.en[m.li.toNat]? with
      | none => (S, did0)
      | some e => if (askE (hereP e (lnG S.X m.li.toNat) (lnG_len _ _)) k m).2 = 0 then (⟨sendP (S.ps.set k.toNat { x with up := rest }) (askE (hereP e (lnG S.X m.li.toNat) (lnG_len _ _)) k m).1.2, S.en.set m.li.toNat (askE (hereP e (lnG S.X m.li.toNat) (lnG_len _ _)) k m).1.1, S.es, S.xs⟩, did0) else (S, didE (askE (hereP e (lnG S.X m.li.toNat) (lnG_len _ _)) k m).2)
def answerM (c : Cg) (S : Mst) (k : Int) : Mst × MDid :=
  match portAt c S k with
  | none => (S, didE 1)
  | some x => match x.an with
    | [] => (S, didE 14)
    | m :: rest => match S.en[m.li.toNat]? with
      | none => (S, did0)
      | some e => if (ansE e k m).2 = 0 then (⟨sendP (S.ps.set k.toNat { x with an := rest }) (ansE e k m).1.2, S.en.set m.li.toNat (ansE e k m).1.1, S.es, S.xs⟩, did0) else (S.put k { x with an := rest }, didE (ansE e k m).2)
def hearM (c : Cg) (S : Mst) (k : Int) : Mst × MDid :=
  match portAt c S k with
  | none => (S, didE 1)
  | some x => match x.dn with
    | [] => (S, didE 14)
    | m :: rest => if (hearF c.se c.wa x.s m).2.2 = 0 then (S.put k { x with s := (hearF c.se c.wa x.s m).1, an := x.an ++ (hearF c.se c.wa x.s m).2.1, dn := rest }, ⟨0, false, m, 0⟩) else (S.put k { x with s := (hearF c.se c.wa x.s m).1, dn := rest }, didE (hearF c.se c.wa x.s m).2.2)
def pushM (c : Cg) (S : Mst) (li : Int) : Mst × MDid :=
  if inB li c.li = true then (match S.en[li.toNat]? with
    | none => (S, did0)
    | some e => if readyE e = true then (if saveV c S.es li.toNat e = 0 then (⟨sendP S.ps (tellL (bitM e.by_) (ms4 14 li false false)), S.en.set li.toNat ((overE e).setDi false), saveEs c S.es li.toNat e, S.xs⟩, did0) else (⟨S.ps, S.en, saveEs c S.es li.toNat e, S.xs⟩, didE (saveV c S.es li.toNat e))) else (S, didE 16)) else (S, didE 1)
def evictM (c : Cg) (S : Mst) (k li : Int) : Mst × MDid :=
  match portAt c S k with
  | none => (S, didE 1)
  | some x => if inB li c.li = true then (S.put k { x with s := (evictF c.se c.wa x.s li).1, up := x.up ++ (evictF c.se c.wa x.s li).2.1 }, didE (evictF c.se c.wa x.s li).2.2) else (S, didE 1)
def dropM (c : Cg) (S : Mst) (li : Int) : Mst × MDid :=
  if inB li c.li = true then (match S.en[li.toNat]? with
    | none => (S, did0)
    | some e => if keptE e = true then (S, didE 16) else (if saveV c S.es li.toNat e = 0 then (⟨S.ps, S.en.set li.toNat enE, saveEs c S.es li.toNat e, S.xs⟩, did0) else (⟨S.ps, S.en, saveEs c S.es li.toNat e, S.xs⟩, didE (saveV c S.es li.toNat e)))) else (S, didE 1)
def drainM (c : Cg) (S : Mst) (li : Int) : Mst × MDid :=
  if inB li c.li = true then (⟨S.ps, S.en, drainEs S.es li, drainXs S.xs S.es li⟩, didE (drainVal S.es li)) else (S, didE 1)
def failM (c : Cg) (S : Mst) : Mst := ⟨List.replicate c.co (pt0 c), List.replicate c.li enE, [], forget S.X c.vo⟩
def stepM (c : Cg) (S : Mst) (kd co li wd v : Int) : Mst × MDid :=
  if kd = 0 then loadM c S co li wd else if kd = 1 then storeM c S co li wd v else if kd = 2 then reachM c S co li else if kd = 3 then flushM c S co li (4 + v % 2)
  else if kd = 4 then upM c S co else if kd = 5 then answerM c S co else if kd = 6 then hearM c S co else if kd = 7 then pushM c S li else if kd = 8 then evictM c S co li
  else if kd = 9 then dropM c S li else if kd = 10 then drainM c S li else if kd = 11 then (failM c S, did0) else (S, did0)
/-- What the lines are: the last word that was written. -/
def curM (c : Cg) (S : Mst) (kd co li wd v : Int) (cur : Nat → List Int) : Nat → List Int :=
  if kd = 1 then (if (storeM c S co li wd v).2.hit = true then fun i => if (i : Int) = li then (cur i).set wd.toNat v else cur i else cur) else if kd = 11 then fun i => ln (failM c S).X i else cur

/-! ### What holds of every system -/
structure PtI (c : Cg) (n : Nat) (x : Pt) : Prop where
  aj : AJ c.se c.wa c.li x.s
  us : x.s.2 ≤ n
  up : x.up.length ≤ n
  an : x.an.length ≤ n
  dn : x.dn.length ≤ n
  fu : ∀ m ∈ x.up, mg m = true ∧ asksB m.kd = true ∧ m.li < c.li
  fa : ∀ m ∈ x.an, mg m = true ∧ answersB m.kd = true ∧ m.li < c.li
  fd : ∀ m ∈ x.dn, mg m = true ∧ tellsB m.kd = true ∧ m.li < c.li
theorem PtI.mono {c : Cg} {n n' : Nat} {x : Pt} (h : PtI c n x) (hn : n ≤ n') : PtI c n' x :=
  ⟨h.aj, by have := h.us; omega, Nat.le_trans h.up hn, Nat.le_trans h.an hn, Nat.le_trans h.dn hn, h.fu, h.fa, h.fd⟩
structure Inv (c : Cg) (n : Nat) (S : Mst) (cur : Nat → List Int) : Prop where
  ok : c.Ok
  co : S.ps.length = c.co
  li : S.en.length = c.li
  xs : S.xs.length = c.li * 8
  lie : Lie c.li S.es
  pt : ∀ j, j < c.co → PtI c n (atP S.ps j)
  ln : ∀ i e, S.en[i]? = some e → LinI c.co S.ps (cur i) (ln S.X i) i e
theorem mg_line {m : Ms} (h : mg m = true) : 0 ≤ m.li ∧ m.li ≤ 63 ∧ lineB m.li = true := by
  simp only [mg, Bool.and_eq_true] at h
  have h2 := h.1.1.1.2
  have := h2
  simp [lineB] at this
  exact ⟨this.1, this.2, h2⟩
section
variable {c : Cg} {n : Nat} {S : Mst} {cur : Nat → List Int} (h : Inv c n S cur)
include h
theorem Inv.lX : S.X.length = c.li * 8 := over_length _ _ h.xs h.lie
theorem Inv.ln8 {i : Nat} (hi : i < c.li) : (Go.Proofs.YtadeoflkppiflaaGreatDoor.ln S.X i).length = 8 := ln_length _ _ (fit_line h.lX hi)
theorem Inv.mono {n' : Nat} (hn : n ≤ n') : Inv c n' S cur := ⟨h.ok, h.co, h.li, h.xs, h.lie, fun j hj => (h.pt j hj).mono hn, h.ln⟩
theorem Inv.port {k : Int} {x : Pt} (hp : portAt c S k = some x) : ∃ j : Nat, k = (j : Int) ∧ j < c.co ∧ S.ps[j]? = some x ∧ atP S.ps j = x ∧ PtI c n x ∧ inB k c.co = true := by
  unfold portAt at hp
  split at hp
  · rename_i hb
    have hb' := hb
    unfold inB at hb
    simp at hb
    obtain ⟨j, rfl⟩ : ∃ j : Nat, k = (j : Int) := ⟨k.toNat, by omega⟩
    rw [Int.toNat_natCast] at hp
    have := atP_of hp
    exact ⟨j, rfl, by omega, hp, this, this ▸ h.pt j (by omega), hb'⟩
  · cases hp
theorem Inv.portNone {k : Int} (hp : portAt c S k = none) : inB k c.co = false := by
  unfold portAt at hp
  split at hp
  · rename_i hb
    unfold inB at hb
    simp at hb
    rw [List.getElem?_eq_none_iff, h.co] at hp
    omega
  · rename_i hb; simpa using hb
theorem Inv.entry {i : Nat} (hi : i < c.li) : ∃ e, S.en[i]? = some e ∧ LinI c.co S.ps (cur i) (Go.Proofs.YtadeoflkppiflaaGreatDoor.ln S.X i) i e :=
  ⟨_, List.getElem?_eq_getElem (by rw [h.li]; exact hi), h.ln i _ (List.getElem?_eq_getElem (by rw [h.li]; exact hi))⟩
/-- An agent's call. -/
theorem Inv.ag {j : Nat} {x : Pt} (hj : j < c.co) (hx : S.ps[j]? = some x) {s' : Sta} {ms : List Ms} (ha : Asks c.li x.s s' ms) (haj : AJ c.se c.wa c.li s') (hu : s'.2 ≤ x.s.2 + 1) : Inv c (n + 1) (S.put j { x with s := s', up := x.up ++ ms }) cur := by
  have hk := (List.getElem?_eq_some_iff.1 hx).1
  have e0 : (S.put (j : Int) { x with s := s', up := x.up ++ ms }).ps = S.ps.set j { x with s := s', up := x.up ++ ms } := by unfold Mst.put; rw [Int.toNat_natCast]
  have hpx := atP_of hx ▸ h.pt j hj
  have hlen : ms.length ≤ 1 ∧ ∀ m ∈ ms, mg m = true ∧ asksB m.kd = true ∧ m.li < c.li := by
    rcases ha with ⟨rfl, _⟩ | ⟨li, h0, hn, ha, _⟩
    · exact ⟨by simp, fun m hm => by cases hm⟩
    · have := h.ok.li64
      obtain ⟨m, rfl, h1, h2, h3, h4⟩ := ha.msg (by unfold lineB; simp; omega)
      exact ⟨by simp, fun a hm => by rw [List.mem_singleton] at hm; subst hm; exact ⟨h4, h3, by omega⟩⟩
  refine ⟨h.ok, ?_, h.li, h.xs, h.lie, fun p hp => ?_, fun i e he => ?_⟩
  · rw [e0, List.length_set]; exact h.co
  · rw [e0, atP_set hk]
    split
    · refine ⟨haj, ?_, ?_, Nat.le_succ_of_le hpx.an, Nat.le_succ_of_le hpx.dn, ?_, hpx.fa, hpx.fd⟩
      · have := hpx.us
        show s'.2 ≤ ((n + 1 : Nat) : Int)
        omega
      · show (x.up ++ ms).length ≤ n + 1
        rw [List.length_append]
        have := hpx.up
        omega
      · intro m hm
        rcases List.mem_append.1 hm with h1 | h1
        · exact hpx.fu m h1
        · exact hlen.2 m h1
    · exact (h.pt p hp).mono (Nat.le_succ n)
  · rw [e0]
    exact (h.ln i e he).ag h.ok.li64 hx ha
/-- A word is written. -/
theorem Inv.write {j : Nat} {x : Pt} (hj : j < c.co) (hx : S.ps[j]? = some x) {s' : Sta} {li : Nat} (l' : List Int) (hs : (vw x.s li).1 = 2 ∨ (vw x.s li).1 = 3) (hv : vw s' li = (3, l')) (ho : ∀ li', li' ≠ (li : Int) → vw s' li' = vw x.s li') (haj : AJ c.se c.wa c.li s') (hu : s'.2 ≤ x.s.2 + 1) :
    Inv c (n + 1) (S.put j { x with s := s' }) (fun i => if i = li then l' else cur i) ∧ (vw x.s li).2 = cur li := by
  have hk := (List.getElem?_eq_some_iff.1 hx).1
  have e0 : (S.put (j : Int) { x with s := s' }).ps = S.ps.set j { x with s := s' } := by unfold Mst.put; rw [Int.toNat_natCast]
  have hpx := atP_of hx ▸ h.pt j hj
  refine ⟨⟨h.ok, ?_, h.li, h.xs, h.lie, fun p hp => ?_, fun i e he => ?_⟩, ?_⟩
  · rw [e0, List.length_set]; exact h.co
  · rw [e0, atP_set hk]
    split
    · refine ⟨haj, ?_, Nat.le_succ_of_le hpx.up, Nat.le_succ_of_le hpx.an, Nat.le_succ_of_le hpx.dn, hpx.fu, hpx.fa, hpx.fd⟩
      have := hpx.us
      show s'.2 ≤ ((n + 1 : Nat) : Int)
      omega
    · exact (h.pt p hp).mono (Nat.le_succ n)
  · rw [e0]
    have hl := h.ln i e he
    by_cases hi : i = li
    · subst hi
      rw [if_pos rfl]
      exact (hl.write hj hx l' hs hv).1
    · rw [if_neg hi]
      exact hl.writeOff hx (ho i (by omega))
  · have hli : li < c.li := by
      have := (hpx.aj.line (li := (li : Int)) (by omega)).2.1
      omega
    obtain ⟨e, he, hl⟩ := h.entry hli
    exact (hl.write hj hx l' hs hv).2
/-- A flush is asked for. -/
theorem Inv.flush {j : Nat} {x : Pt} (hj : j < c.co) (hx : S.ps[j]? = some x) {li : Int} (hl : inB li c.li = true) {kd : Int} (hkd : kd = 4 ∨ kd = 5) : Inv c (n + 1) (S.put j { x with up := x.up ++ [ms4 kd li false false] }) cur ∧ mg (ms4 kd li false false) = true := by
  have hk := (List.getElem?_eq_some_iff.1 hx).1
  have e0 : (S.put (j : Int) { x with up := x.up ++ [ms4 kd li false false] }).ps = S.ps.set j { x with up := x.up ++ [ms4 kd li false false] } := by unfold Mst.put; rw [Int.toNat_natCast]
  have hpx := atP_of hx ▸ h.pt j hj
  have h64 := h.ok.li64
  unfold inB at hl
  simp at hl
  have hlB : lineB li = true := by unfold lineB; simp; omega
  have hmg : mg (ms4 kd li false false) = true := by rcases hkd with rfl | rfl <;> simp [mg, ms4, kindB, hlB]
  refine ⟨⟨h.ok, ?_, h.li, h.xs, h.lie, fun p hp => ?_, fun i e he => ?_⟩, hmg⟩
  · rw [e0, List.length_set]; exact h.co
  · rw [e0, atP_set hk]
    split
    · refine ⟨hpx.aj, ?_, ?_, Nat.le_succ_of_le hpx.an, Nat.le_succ_of_le hpx.dn, ?_, hpx.fa, hpx.fd⟩
      · have := hpx.us
        show x.s.2 ≤ ((n + 1 : Nat) : Int)
        omega
      · show (x.up ++ [ms4 kd li false false]).length ≤ n + 1
        rw [List.length_append]
        have := hpx.up
        simp; omega
      · intro m hm
        rcases List.mem_append.1 hm with h1 | h1
        · exact hpx.fu m h1
        · rw [List.mem_singleton] at h1
          subst h1
          exact ⟨hmg, by rcases hkd with rfl | rfl <;> rfl, hl.2⟩
    · exact (h.pt p hp).mono (Nat.le_succ n)
  · rw [e0]
    refine (h.ln i e he).same fun p hp => ?_
    rw [atP_set hk]
    split
    · rename_i hpj
      subst hpj
      rw [atP_of hx]
      refine ⟨rfl, rfl, ?_, rfl, rfl⟩
      unfold upL
      rw [List.filter_append]
      have : [ms4 kd li false false].filter (fun m => m.li == (i : Int) && decide (m.kd ≤ 3)) = [] := by rcases hkd with rfl | rfl <;> simp [ms4]
      rw [this, List.append_nil]
    · exact ⟨rfl, rfl, rfl, rfl, rfl⟩
omit h in
/-- What is sent: each port as it was, but for one message more. -/
theorem PtI.sent {c : Cg} {n : Nat} {x : Pt} (h : PtI c n x) {a : Ms} (ha : mg a = true ∧ tellsB a.kd = true ∧ a.li < c.li) : PtI c (n + 1) { x with dn := x.dn ++ [a] } := by
  refine ⟨h.aj, ?_, Nat.le_succ_of_le h.up, Nat.le_succ_of_le h.an, ?_, h.fu, h.fa, ?_⟩
  · have := h.us
    show x.s.2 ≤ ((n + 1 : Nat) : Int)
    omega
  · show (x.dn ++ [a]).length ≤ n + 1
    rw [List.length_append]
    have := h.dn
    simp; omega
  · intro m hm
    rcases List.mem_append.1 hm with h1 | h1
    · exact h.fd m h1
    · rw [List.mem_singleton] at h1; subst h1; exact ha
end
theorem sent_ports {c : Cg} {n : Nat} {ps : List Pt} (hl : ps.length = c.co) (hp : ∀ j, j < c.co → PtI c n (atP ps j)) {o : Mk} {a : Ms} (ho : ∀ j : Nat, j < 8 → hasM o j = true → j < c.co) (ha : mg a = true ∧ tellsB a.kd = true ∧ a.li < c.li) :
    (sendP ps (tellL o a)).length = c.co ∧ ∀ j, j < c.co → PtI c (n + 1) (atP (sendP ps (tellL o a)) j) := by
  obtain ⟨h1, h2⟩ := sendP_tell o a ps (by rw [hl]; exact ho)
  refine ⟨h1.trans hl, fun j hj => ?_⟩
  rw [h2 j (by omega)]
  split
  · exact (hp j hj).sent ha
  · exact (hp j hj).mono (Nat.le_succ n)
section
variable {c : Cg} {n : Nat} {S : Mst} {cur : Nat → List Int} (h : Inv c n S cur)
include h
/-- A request reaches the directory, or has to wait. -/
theorem Inv.up {j : Nat} {x : Pt} (hj : j < c.co) (hx : S.ps[j]? = some x) {m : Ms} {rest : List Ms} (hu : x.up = m :: rest) : ∃ (i : Nat) (e : En), m.li = (i : Int) ∧ i < c.li ∧ S.en[i]? = some e ∧
    ((e.bu ≠ 0 ∧ askE (hereP e (lnG S.X i) (lnG_len _ _)) j m = ((enZ, []), 15)) ∨
     (e.bu = 0 ∧ ∃ o a e', askE (hereP e (lnG S.X i) (lnG_len _ _)) j m = ((e', tellL o a), 0) ∧ TellOk m.li a ∧ (∀ j : Nat, j < 8 → hasM o j = true → j < c.co) ∧ Inv c (n + 1) ⟨sendP (S.ps.set j { x with up := rest }) (tellL o a), S.en.set i e', S.es, S.xs⟩ cur)) := by
  have hk := (List.getElem?_eq_some_iff.1 hx).1
  have hpx := atP_of hx ▸ h.pt j hj
  obtain ⟨m1, m2, m3⟩ := hpx.fu m (by rw [hu]; simp)
  obtain ⟨l1, l2, l3⟩ := mg_line m1
  obtain ⟨i, hi⟩ : ∃ i : Nat, m.li = (i : Int) := ⟨m.li.toNat, by omega⟩
  have hic : i < c.li := by omega
  obtain ⟨e, he, hl⟩ := h.entry hic
  refine ⟨i, e, hi, hic, he, ?_⟩
  have h8 := h.ln8 hic
  have hG := lnG_eq h8
  by_cases hb : e.bu = 0
  · obtain ⟨o, a, e', q1, q2, q3, q4⟩ := LinI.up (X := lnG S.X i) (by rw [hG]; exact hl) h.ok.co8 h.co (lnG_len _ _) hb hx hu m2 m1 hi
    refine .inr ⟨hb, o, a, e', q1, q2, q3, ?_⟩
    have hta : mg a = true ∧ tellsB a.kd = true ∧ a.li < c.li := ⟨q2.1, q2.2.1, by rw [q2.2.2.1]; exact m3⟩
    have hp1 : ∀ p, p < c.co → PtI c n (atP (S.ps.set j { x with up := rest }) p) := by
      intro p hp
      rw [atP_set hk]
      split
      · refine ⟨hpx.aj, hpx.us, ?_, hpx.an, hpx.dn, fun a ha => hpx.fu a (by rw [hu]; simp [show a ∈ rest from ha]), hpx.fa, hpx.fd⟩
        have := hpx.up
        rw [hu] at this
        simp at this
        show rest.length ≤ n
        omega
      · exact h.pt p hp
    obtain ⟨r1, r2⟩ := sent_ports (by rw [List.length_set]; exact h.co) hp1 q3 hta
    refine ⟨h.ok, r1, by rw [List.length_set]; exact h.li, h.xs, h.lie, r2, fun p ep hep => ?_⟩
    rw [List.getElem?_set] at hep
    split at hep
    · rename_i hip
      subst hip
      split at hep
      · injection hep with hep
        subst hep
        rw [hG] at q4
        exact q4
      · cases hep
    · rename_i hip
      exact LinI.upOff (h.ln p ep hep) h.co hx hu (by omega) q3 q2
  · refine .inl ⟨hb, ?_⟩
    have hh : e.he = true := by
      cases hh : e.he
      · have he' : e = enE := by
          have := hl.good
          unfold goodE at this
          rw [if_neg (by simp [hh])] at this
          simpa using this
        rw [he'] at hb; exact absurd rfl hb
      · rfl
    unfold hereP
    rw [if_pos hh]
    unfold askE
    have harg : askArg e j m = true := by simp [askArg, hl.good, isC_cast (show j < 8 by have := h.ok.co8; omega), m1, m2]
    rw [if_pos harg, if_pos hb]
/-- An answer reaches the directory. -/
theorem Inv.answer {j : Nat} {x : Pt} (hj : j < c.co) (hx : S.ps[j]? = some x) {m : Ms} {rest : List Ms} (hu : x.an = m :: rest) : ∃ (i : Nat) (e : En), m.li = (i : Int) ∧ i < c.li ∧ S.en[i]? = some e ∧
    ∃ o a e', ansE e j m = ((e', tellL o a), 0) ∧ TellOk m.li a ∧ (∀ j : Nat, j < 8 → hasM o j = true → j < c.co) ∧ Inv c (n + 1) ⟨sendP (S.ps.set j { x with an := rest }) (tellL o a), S.en.set i e', S.es, S.xs⟩ cur := by
  have hk := (List.getElem?_eq_some_iff.1 hx).1
  have hpx := atP_of hx ▸ h.pt j hj
  obtain ⟨m1, m2, m3⟩ := hpx.fa m (by rw [hu]; simp)
  obtain ⟨l1, l2, l3⟩ := mg_line m1
  obtain ⟨i, hi⟩ : ∃ i : Nat, m.li = (i : Int) := ⟨m.li.toNat, by omega⟩
  have hic : i < c.li := by omega
  obtain ⟨e, he, hl⟩ := h.entry hic
  refine ⟨i, e, hi, hic, he, ?_⟩
  obtain ⟨o, a, e', q1, q2, q3, q4⟩ := LinI.answer hl h.ok.co8 h.co hx hu m2 m1 hi
  refine ⟨o, a, e', q1, q2, q3, ?_⟩
  have hta : mg a = true ∧ tellsB a.kd = true ∧ a.li < c.li := ⟨q2.1, q2.2.1, by rw [q2.2.2.1]; exact m3⟩
  have hp1 : ∀ p, p < c.co → PtI c n (atP (S.ps.set j { x with an := rest }) p) := by
    intro p hp
    rw [atP_set hk]
    split
    · refine ⟨hpx.aj, hpx.us, hpx.up, ?_, hpx.dn, hpx.fu, fun a ha => hpx.fa a (by rw [hu]; simp [show a ∈ rest from ha]), hpx.fd⟩
      have := hpx.an
      rw [hu] at this
      simp at this
      show rest.length ≤ n
      omega
    · exact h.pt p hp
  obtain ⟨r1, r2⟩ := sent_ports (by rw [List.length_set]; exact h.co) hp1 q3 hta
  refine ⟨h.ok, r1, by rw [List.length_set]; exact h.li, h.xs, h.lie, r2, fun p ep hep => ?_⟩
  rw [List.getElem?_set] at hep
  split at hep
  · rename_i hip
    subst hip
    split at hep
    · injection hep with hep
      subst hep
      exact q4
    · cases hep
  · rename_i hip
    exact LinI.answerOff (h.ln p ep hep) h.co hx hu (by omega) q3 q2
/-- A core hears. -/
theorem Inv.hear {j : Nat} {x : Pt} (hj : j < c.co) (hx : S.ps[j]? = some x) {m : Ms} {rest : List Ms} (hd : x.dn = m :: rest) : tb m.kd (vw x.s m.li).1 ≠ 0 ∧ (hearF c.se c.wa x.s m).2.2 = 0 ∧ (hearF c.se c.wa x.s m).2.1.length ≤ 1 ∧ (∀ a ∈ (hearF c.se c.wa x.s m).2.1, mg a = true) ∧
    Inv c (n + 1) (S.put j { x with s := (hearF c.se c.wa x.s m).1, an := x.an ++ (hearF c.se c.wa x.s m).2.1, dn := rest }) cur := by
  have hk := (List.getElem?_eq_some_iff.1 hx).1
  have hpx := atP_of hx ▸ h.pt j hj
  obtain ⟨m1, m2, m3⟩ := hpx.fd m (by rw [hd]; simp)
  obtain ⟨l1, l2, l3⟩ := mg_line m1
  obtain ⟨i, hi⟩ : ∃ i : Nat, m.li = (i : Int) := ⟨m.li.toNat, by omega⟩
  have hic : i < c.li := by omega
  obtain ⟨e, he, hl⟩ := h.entry hic
  have ht := hl.fits hj hx hpx.aj hd hi
  have hg : (mg m && tellsB m.kd) = true := by rw [m1, m2]; rfl
  obtain ⟨a1, a2, _⟩ := hpx.aj.hearF hg m3 ht
  have hav : (answersL m.kd (findVal x.s.1 m.li) (tb m.kd (vw x.s m.li).1)).length ≤ 1 ∧ ∀ a ∈ answersL m.kd (findVal x.s.1 m.li) (tb m.kd (vw x.s m.li).1), mg a = true ∧ answersB a.kd = true ∧ a.li < c.li := by
    by_cases h14 : m.kd = 14
    · rw [h14]; exact ⟨Nat.zero_le _, fun a ha => by cases ha⟩
    · have hl := (hpx.aj.line (tb_line ht h14)).2.2.1
      have hto : ∀ kd ke, ((kd = 6 ∧ ke = false) ∨ kd = 7) → mg (toldM kd (findVal x.s.1 m.li) ke) = true ∧ answersB (toldM kd (findVal x.s.1 m.li) ke).kd = true ∧ (toldM kd (findVal x.s.1 m.li) ke).li < c.li := by
        intro kd ke hk
        unfold toldM
        split
        · refine ⟨?_, by rcases hk with ⟨rfl, _⟩ | rfl <;> rfl, by show (findVal x.s.1 m.li).li < c.li; omega⟩
          rcases hk with ⟨rfl, rfl⟩ | rfl <;> simp [mg, kindB, mayD, mayK, hl, l3]
        · refine ⟨?_, by rcases hk with ⟨rfl, _⟩ | rfl <;> rfl, by show (findVal x.s.1 m.li).li < c.li; omega⟩
          rcases hk with ⟨rfl, rfl⟩ | rfl <;> simp [mg, ms4, kindB, mayD, mayK, hl, l3]
      unfold answersL
      split
      · exact ⟨by simp, fun a ha => by rw [List.mem_singleton] at ha; subst ha; exact hto 6 false (.inl ⟨rfl, rfl⟩)⟩
      · split
        · exact ⟨by simp, fun a ha => by rw [List.mem_singleton] at ha; subst ha; exact hto 7 _ (.inr rfl)⟩
        · exact ⟨by simp, fun a ha => by cases ha⟩
  rw [show (hearF c.se c.wa x.s m).2.1 = answersL m.kd (findVal x.s.1 m.li) (tb m.kd (vw x.s m.li).1) by rw [a2]]
  refine ⟨ht, by rw [a2], hav.1, fun a ha => (hav.2 a ha).1, ?_⟩
  generalize hAV : answersL m.kd (findVal x.s.1 m.li) (tb m.kd (vw x.s m.li).1) = av at hav
  have e0 : (S.put (j : Int) { x with s := (hearF c.se c.wa x.s m).1, an := x.an ++ av, dn := rest }).ps = S.ps.set j { x with s := (hearF c.se c.wa x.s m).1, an := x.an ++ av, dn := rest } := by unfold Mst.put; rw [Int.toNat_natCast]
  refine ⟨h.ok, ?_, h.li, h.xs, h.lie, fun p hp => ?_, fun p ep hep => ?_⟩
  · rw [e0, List.length_set]; exact h.co
  · rw [e0, atP_set hk]
    split
    · refine ⟨a1, ?_, Nat.le_succ_of_le hpx.up, ?_, ?_, hpx.fu, ?_, fun a ha => hpx.fd a (by rw [hd]; simp [show a ∈ rest from ha])⟩
      · have := (hearF_u (S := c.se) (N := c.wa) (s := x.s) (m := m)).2
        have := hpx.us
        show (hearF c.se c.wa x.s m).1.2 ≤ ((n + 1 : Nat) : Int)
        omega
      · show (x.an ++ av).length ≤ n + 1
        rw [List.length_append]
        have := hpx.an
        omega
      · have := hpx.dn
        rw [hd] at this
        simp at this
        show rest.length ≤ n + 1
        omega
      · intro a ha
        rcases List.mem_append.1 ha with h1 | h1
        · exact hpx.fa a h1
        · exact hav.2 a h1
    · exact (h.pt p hp).mono (Nat.le_succ n)
  · rw [e0, ← hAV]
    exact (h.ln p ep hep).hear hx hpx.aj hd hg m3 ht
/-- Words go into the memory's queue. -/
theorem Inv.saved {i : Nat} (hi : i < c.li) (e : En) : (saveV c S.es i e = 0 ∨ saveV c S.es i e = 13) ∧ (saveV c S.es i e ≠ 0 → saveEs c S.es i e = S.es) ∧ (saveV c S.es i e = 0 → Lie c.li (saveEs c S.es i e) ∧ over S.xs (saveEs c S.es i e) = if e.di = true then lnPut S.X i e.l else S.X) := by
  have h0 : (0 : Int) ≤ (i : Int) ∧ (i : Int) < (c.li : Int) := by omega
  unfold saveV saveEs wpushVal pushEs
  rw [if_pos h0, if_pos h0]
  cases hd : e.di
  · simp only [Bool.false_eq_true, if_false]
    exact ⟨.inl trivial, fun h => absurd rfl h, fun _ => ⟨h.lie, rfl⟩⟩
  · simp only [if_true]
    by_cases hr : c.qu ≤ S.es.length
    · rw [if_pos hr, if_pos hr]
      exact ⟨.inr rfl, fun _ => rfl, fun h => absurd h (by decide)⟩
    · rw [if_neg hr, if_neg hr]
      refine ⟨.inl rfl, fun h => absurd rfl h, fun _ => ⟨h.lie.snoc (by rw [Int.toNat_natCast]; exact hi), ?_⟩⟩
      rw [over_snoc, Int.toNat_natCast]; rfl
theorem Inv.push {i : Nat} {e : En} (hi : i < c.li) (he : S.en[i]? = some e) (hr : readyE e = true) : isC e.by_ = true ∧ e.by_ < c.co ∧ mg (ms4 14 i false false) = true ∧ (saveV c S.es i e = 0 → Inv c (n + 1) ⟨sendP S.ps (tellL (bitM e.by_) (ms4 14 i false false)), S.en.set i ((overE e).setDi false), saveEs c S.es i e, S.xs⟩ cur) := by
  have hl := h.ln i e he
  have h64 := h.ok.li64
  have fit := push_fit hr
  have hh : e.he = true := fit.1
  have hlB : lineB (i : Int) = true := by unfold lineB; simp; omega
  have hmg : mg (ms4 14 (i : Int) false false) = true := by simp [mg, ms4, kindB, hlB]
  have hbu : e.bu = 4 ∨ e.bu = 5 := by simp only [readyE, Bool.and_eq_true, Bool.or_eq_true, beq_iff_eq] at hr; exact hr.1.2
  have hC : isC e.by_ = true := by
    rcases ((good_here hh).1 hl.good).2 with ⟨h1, _⟩ | ⟨_, h1, _⟩ | ⟨_, h1⟩
    · omega
    · exact h1.1
    · exact h1.1
  refine ⟨hC, hl.lo.2.1, hmg, fun hv => ?_⟩
  obtain ⟨_, _, s3⟩ := h.saved hi e
  obtain ⟨s4, s5⟩ := s3 hv
  obtain ⟨p, hp, hpe⟩ := isC_nat hC
  have hob : ∀ j : Nat, j < 8 → hasM (bitM e.by_) j = true → j < c.co := by
    intro j _ hj
    rw [has_bitN _ hC, decide_eq_true_eq] at hj
    have := hl.lo.2.1
    omega
  obtain ⟨r1, r2⟩ := sent_ports h.co h.pt hob (a := ms4 14 (i : Int) false false) ⟨hmg, rfl, by show (i : Int) < c.li; omega⟩
  refine ⟨h.ok, r1, by rw [List.length_set]; exact h.li, h.xs, s4, r2, fun q eq heq => ?_⟩
  have eX : (Mst.mk (sendP S.ps (tellL (bitM e.by_) (ms4 14 (i : Int) false false))) (S.en.set i ((overE e).setDi false)) (saveEs c S.es i e) S.xs).X = if e.di = true then lnPut S.X i e.l else S.X := s5
  rw [eX]
  rw [List.getElem?_set] at heq
  split at heq
  · rename_i hiq
    subst hiq
    split at heq
    · injection heq with heq
      subst heq
      refine LinI.sent (hl.push hr ?_) h.co hob (.inr rfl)
      split
      · exact ln_put_same _ _ _ (fit_line h.lX hi) e.h
      · rename_i hd
        exact hl.mem1 hh (by simpa using hd)
    · cases heq
  · rename_i hiq
    refine LinI.sent ((h.ln q eq heq).mem ?_) h.co hob (.inr rfl)
    split
    · exact ln_put_other _ _ _ _ (fit_line h.lX hi) e.h hiq
    · rfl
theorem Inv.drop {i : Nat} {e : En} (hi : i < c.li) (he : S.en[i]? = some e) (hr : keptE e = false) (hv : saveV c S.es i e = 0) : Inv c (n + 1) ⟨S.ps, S.en.set i enE, saveEs c S.es i e, S.xs⟩ cur := by
  have hl := h.ln i e he
  have hh : e.he = true := by
    unfold keptE at hr
    simp only [Bool.or_eq_false_iff, Bool.not_eq_false'] at hr
    exact hr.1.1.1
  obtain ⟨_, _, s3⟩ := h.saved hi e
  obtain ⟨s4, s5⟩ := s3 hv
  refine ⟨h.ok, h.co, by rw [List.length_set]; exact h.li, h.xs, s4, fun j hj => (h.pt j hj).mono (Nat.le_succ n), fun q eq heq => ?_⟩
  have eX : (Mst.mk S.ps (S.en.set i enE) (saveEs c S.es i e) S.xs).X = if e.di = true then lnPut S.X i e.l else S.X := s5
  rw [eX]
  rw [List.getElem?_set] at heq
  split at heq
  · rename_i hiq
    subst hiq
    split at heq
    · injection heq with heq
      subst heq
      refine hl.drop h.ok.co1 hr ?_
      split
      · exact ln_put_same _ _ _ (fit_line h.lX hi) e.h
      · rename_i hd
        exact hl.mem1 hh (by simpa using hd)
    · cases heq
  · rename_i hiq
    refine (h.ln q eq heq).mem ?_
    split
    · exact ln_put_other _ _ _ _ (fit_line h.lX hi) e.h hiq
    · rfl
theorem Inv.drain (li : Int) : Inv c (n + 1) ⟨S.ps, S.en, drainEs S.es li, drainXs S.xs S.es li⟩ cur := by
  have hx : Lie c.li (drainEs S.es li) ∧ (drainXs S.xs S.es li).length = c.li * 8 ∧ over (drainXs S.xs S.es li) (drainEs S.es li) = S.X := by
    by_cases hf : firstAt S.es li < S.es.length
    · obtain ⟨e, he, hp, hb⟩ := first_some hf
      refine ⟨h.lie.sub (fun x hx => List.mem_of_mem_eraseIdx hx), ?_, ?_⟩
      · unfold drainXs
        rw [he]
        show (lnPut S.xs e.pos e.l).length = _
        rw [lnPut_length _ _ _ (fit_line h.xs (h.lie.get he)) e.h]
        exact h.xs
      · unfold drainXs drainEs
        rw [he]
        exact over_drain S.xs h.xs h.lie he (fun x hx => by have := hb x hx; omega)
    · unfold drainEs drainXs
      rw [List.eraseIdx_of_length_le (by omega), List.getElem?_eq_none (by omega)]
      exact ⟨h.lie, h.xs, rfl⟩
  refine ⟨h.ok, h.co, h.li, hx.2.1, hx.1, fun j hj => (h.pt j hj).mono (Nat.le_succ n), fun q eq heq => ?_⟩
  have eX : (Mst.mk S.ps S.en (drainEs S.es li) (drainXs S.xs S.es li)).X = S.X := hx.2.2
  rw [eX]
  exact h.ln q eq heq
end
/-- A system that was made. -/
theorem Inv.fresh (c : Cg) (hc : c.Ok) (xs : List Int) (hx : xs.length = c.li * 8) : Inv c 0 ⟨List.replicate c.co (pt0 c), List.replicate c.li enE, [], xs⟩ (fun i => Go.Proofs.YtadeoflkppiflaaGreatDoor.ln xs i) := by
  have hgood : Good c.se c.wa (List.replicate (c.se * c.wa) sltZ) := by
    have := hc.new
    unfold goodNew at this
    exact Good.new (by omega) (by omega) (by omega)
  have haj : AJ c.se c.wa c.li (st0 c) := ⟨OnceAt.new hgood, Sane.new _, Int.le_refl 0, fun x hx h0 => by rw [List.eq_of_mem_replicate hx] at h0; exact absurd rfl h0⟩
  have hat : ∀ j, j < c.co → atP (List.replicate c.co (pt0 c)) j = pt0 c := fun j hj => atP_of (by rw [List.getElem?_replicate, if_pos hj])
  have hfind : ∀ li, findVal (st0 c).1 li = sltZ := fun li => find_none (fun x hx => by rw [List.eq_of_mem_replicate hx]; rfl)
  refine ⟨hc, by simp, by simp, hx, Lie.nil _, fun j hj => ?_, fun i e he => ?_⟩
  · rw [hat j hj]
    exact ⟨haj, Int.le_refl 0, Nat.le_refl 0, Nat.le_refl 0, Nat.le_refl 0, fun m hm => (by cases hm), fun m hm => (by cases hm), fun m hm => (by cases hm)⟩
  · rw [List.getElem?_replicate] at he
    split at he
    · injection he with he
      subst he
      refine ⟨rfl, ⟨by show (-1 : Int) < c.co; omega, by show (0 : Int) < c.co; have := hc.co1; omega, fun j _ h1 => ?_, fun j _ h1 => ?_⟩, fun j hj => ?_, fun h1 => absurd (show false = true from h1) (by decide), fun _ => rfl, fun h1 => absurd (show false = true from h1) (by decide), fun h1 => absurd (show (0 : Int) = 1 from h1) (by decide), fun h1 => absurd (show (0 : Int) = 2 from h1) (by decide)⟩
      · have h2 : hasM 0#8 (j : Int) = true := h1
        rw [has_zero] at h2; cases h2
      · have h2 : hasM 0#8 (j : Int) = true := h1
        rw [has_zero] at h2; cases h2
      · simp only [hat j hj]
        have e1 : vst (pt0 c) i = 0 := by unfold vst vw; rw [show (pt0 c).s = st0 c from rfl, hfind]; rfl
        rw [e1, bOf_0 (show enE.bu = 0 from rfl)]
        show Rel _ _ _ (decide ((-1 : Int) = (j : Int))) (hasM 0#8 j) (hasM 0#8 j) 0 0 _ [] [] []
        rw [decide_eq_false (by omega), has_zero]
        exact .base (.i _)
    · cases he
end Go.Proofs.YtadeoflkppiflaaGreatDoor
end
section
namespace Go.Proofs.YtadeoflkppiflaaGreatDoor
open Go.RowKit
set_option linter.unusedVariables false
set_option maxHeartbeats 1000000

/-! ### Every step keeps what holds -/
theorem Asks.msgs {n : Nat} {s s' : Sta} {ms : List Ms} (h : Asks n s s' ms) (hn : n ≤ 64) : ms.length ≤ 1 ∧ ∀ m ∈ ms, mg m = true := by
  rcases h with ⟨rfl, _⟩ | ⟨li, h0, hl, ha, _⟩
  · exact ⟨Nat.zero_le _, fun m hm => by cases hm⟩
  · obtain ⟨m, rfl, _, _, _, h4⟩ := ha.msg (by unfold lineB; simp; omega)
    exact ⟨Nat.le_refl 1, fun a hm => by rw [List.mem_singleton] at hm; subst hm; exact h4⟩
theorem inB_iff {k : Int} {n : Nat} : inB k n = true ↔ 0 ≤ k ∧ k < n := by unfold inB; simp
section
variable {c : Cg} {n : Nat} {S : Mst} {cur : Nat → List Int} (h : Inv c n S cur)
include h
theorem Inv.next : Inv c (n + 1) S cur := h.mono (Nat.le_succ n)
theorem Inv.loadM (k li wd : Int) : Inv c (n + 1) (loadM c S k li wd).1 cur := by
  unfold Go.Proofs.YtadeoflkppiflaaGreatDoor.loadM
  cases hp : portAt c S k with
  | none => exact h.next
  | some x =>
    obtain ⟨j, rfl, hj, hx, _, hP, _⟩ := h.port hp
    dsimp only
    split
    · rename_i hl
      obtain ⟨a, b, _⟩ := hP.aj.loadF (inB_iff.1 hl).2 wd
      exact h.ag hj hx b a loadF_u.2
    · exact h.next
theorem Inv.reachM (k li : Int) : Inv c (n + 1) (reachM c S k li).1 cur := by
  unfold Go.Proofs.YtadeoflkppiflaaGreatDoor.reachM
  cases hp : portAt c S k with
  | none => exact h.next
  | some x =>
    obtain ⟨j, rfl, hj, hx, _, hP, _⟩ := h.port hp
    dsimp only
    split
    · rename_i hl
      split
      · exact h.next
      · obtain ⟨a, b⟩ := hP.aj.reachF (inB_iff.1 hl).2
        exact h.ag hj hx b a reachF_u.2
    · exact h.next
theorem Inv.evictM (k li : Int) : Inv c (n + 1) (evictM c S k li).1 cur := by
  unfold Go.Proofs.YtadeoflkppiflaaGreatDoor.evictM
  cases hp : portAt c S k with
  | none => exact h.next
  | some x =>
    obtain ⟨j, rfl, hj, hx, _, hP, _⟩ := h.port hp
    dsimp only
    split
    · obtain ⟨a, b⟩ := hP.aj.evictF li
      exact h.ag hj hx b a evictF_u.2
    · exact h.next
theorem Inv.flushM (k li kd : Int) : Inv c (n + 1) (flushM c S k li kd).1 cur := by
  unfold Go.Proofs.YtadeoflkppiflaaGreatDoor.flushM
  cases hp : portAt c S k with
  | none => exact h.next
  | some x =>
    obtain ⟨j, rfl, hj, hx, _, hP, _⟩ := h.port hp
    dsimp only
    split
    · rename_i hl
      exact (h.flush hj hx hl.1 hl.2).1
    · exact h.next
/-- A word is stored, or not; what the line was. -/
theorem Inv.storeM (k li wd v : Int) : Inv c (n + 1) (storeM c S k li wd v).1 (if (storeM c S k li wd v).2.hit = true then fun i => if (i : Int) = li then (cur i).set wd.toNat v else cur i else cur) ∧ ((storeM c S k li wd v).2.hit = true → inB k c.co = true ∧ inB li c.li = true ∧ isWd wd = true) := by
  cases hp : portAt c S k with
  | none =>
    have e : Go.Proofs.YtadeoflkppiflaaGreatDoor.storeM c S k li wd v = (S, did0) := by unfold Go.Proofs.YtadeoflkppiflaaGreatDoor.storeM; rw [hp]
    rw [e]
    exact ⟨h.next, fun h => by cases h⟩
  | some x =>
    obtain ⟨j, rfl, hj, hx, _, hP, hb⟩ := h.port hp
    by_cases hl : inB li c.li = true
    · have e : Go.Proofs.YtadeoflkppiflaaGreatDoor.storeM c S j li wd v = (S.put j { x with s := (storeF c.se c.wa x.s li wd v).1, up := x.up ++ (storeF c.se c.wa x.s li wd v).2.2 }, ⟨0, (storeF c.se c.wa x.s li wd v).2.1, msZ, 0⟩) := by
        unfold Go.Proofs.YtadeoflkppiflaaGreatDoor.storeM; rw [hp]; exact if_pos hl
      rw [e]
      dsimp only
      obtain ⟨l0, ln⟩ := inB_iff.1 hl
      obtain ⟨i, rfl⟩ : ∃ i : Nat, li = (i : Int) := ⟨li.toNat, by omega⟩
      obtain ⟨a, ⟨b1, b2, _, b3, b4, b5, b6⟩ | ⟨b1, b2⟩⟩ := hP.aj.storeF ln wd v
      · rw [b1, b4, List.append_nil, if_pos rfl]
        refine ⟨?_, fun _ => ⟨hb, hl, b2⟩⟩
        obtain ⟨q1, q2⟩ := h.write hj hx ((vw x.s i).2.set wd.toNat v) b3 b5 b6 a storeF_u.2
        rw [q2] at q1
        have e : (fun p : Nat => if (p : Int) = (i : Int) then (cur p).set wd.toNat v else cur p) = fun p => if p = i then (cur i).set wd.toNat v else cur p := by
          funext p
          by_cases hpi : p = i
          · subst hpi; rw [if_pos rfl, if_pos rfl]
          · rw [if_neg (by omega), if_neg hpi]
        rw [e]
        exact q1
      · rw [b1]
        exact ⟨h.ag hj hx b2 a storeF_u.2, fun h => by cases h⟩
    · have e : Go.Proofs.YtadeoflkppiflaaGreatDoor.storeM c S j li wd v = (S, did0) := by unfold Go.Proofs.YtadeoflkppiflaaGreatDoor.storeM; rw [hp]; exact if_neg hl
      rw [e]
      exact ⟨h.next, fun h => by cases h⟩
theorem Inv.upM (k : Int) : Inv c (n + 1) (upM c S k).1 cur ∧ (inB k c.co = true → (upM c S k).2.e = 0 ∨ (upM c S k).2.e = 14 ∨ (upM c S k).2.e = 15) := by
  unfold Go.Proofs.YtadeoflkppiflaaGreatDoor.upM
  cases hp : portAt c S k with
  | none => exact ⟨h.next, fun hb => absurd (hb.symm.trans (h.portNone hp)) (by decide)⟩
  | some x =>
    obtain ⟨j, rfl, hj, hx, _, hP, hb⟩ := h.port hp
    dsimp only
    cases hu : x.up with
    | nil => exact ⟨h.next, fun _ => .inr (.inl rfl)⟩
    | cons m rest =>
      obtain ⟨i, e, hi, hic, he, hc⟩ := h.up hj hx hu
      have ei : i = m.li.toNat := by omega
      subst ei
      dsimp only
      rw [he]
      dsimp only
      rcases hc with ⟨_, h2⟩ | ⟨_, o, a, e', h2, _, _, h3⟩
      · rw [h2, if_neg (by decide)]
        exact ⟨h.next, fun _ => .inr (.inr rfl)⟩
      · rw [h2, if_pos rfl]
        exact ⟨h3, fun _ => .inl rfl⟩
theorem Inv.answerM (k : Int) : Inv c (n + 1) (answerM c S k).1 cur ∧ (inB k c.co = true → (answerM c S k).2.e = 0 ∨ (answerM c S k).2.e = 14) := by
  unfold Go.Proofs.YtadeoflkppiflaaGreatDoor.answerM
  cases hp : portAt c S k with
  | none => exact ⟨h.next, fun hb => absurd (hb.symm.trans (h.portNone hp)) (by decide)⟩
  | some x =>
    obtain ⟨j, rfl, hj, hx, _, hP, hb⟩ := h.port hp
    dsimp only
    cases hu : x.an with
    | nil => exact ⟨h.next, fun _ => .inr rfl⟩
    | cons m rest =>
      obtain ⟨i, e, hi, hic, he, o, a, e', h2, _, _, h3⟩ := h.answer hj hx hu
      dsimp only
      rw [hi, Int.toNat_natCast, he]
      dsimp only
      rw [h2, if_pos rfl]
      exact ⟨h3, fun _ => .inl rfl⟩
end
theorem find_live (xs : List Slt) (li : Int) : findVal xs li = ((live xs).find? (fun x => x.li == li)).getD sltZ := by
  unfold live
  rw [List.find?_filter]
  have e : (fun a : Slt => decide ((a.st != 0) = true ∧ (a.li == li) = true)) = pLine li := by
    funext a; unfold pLine; by_cases h1 : a.st = 0 <;> by_cases h2 : a.li = li <;> simp [h1, h2]
  rw [e]
  rcases find_mem xs li with ⟨_, h2, h3⟩ | ⟨h1, h3, h2⟩
  · unfold findVal
    unfold dropVal at h3
    have hlt := of_decide_eq_true h3
    have := List.findIdx_getElem (w := hlt)
    rw [List.getElem?_eq_getElem hlt]
    have h4 : xs.find? (pLine li) = some xs[xs.findIdx (pLine li)] := by
      rw [List.find?_eq_some_iff_getElem]
      refine ⟨this, xs.findIdx (pLine li), hlt, rfl, fun j hj => ?_⟩
      have := List.not_of_lt_findIdx hj
      simpa using this
    rw [h4]; rfl
  · rw [h1]
    have : xs.find? (pLine li) = none := by
      rw [List.find?_eq_none]
      intro x hx
      rw [h2 x hx]; decide
    rw [this]; rfl
theorem tb_ne (kd st : Int) (h14 : kd ≠ 14) (h : tb kd st ≠ 0) : (tb kd st = 10 ∧ st ≠ 0) ∨ (tb kd st ≠ 10 ∧ tb kd st ≠ 11 ∧ tb kd st ≠ st) := by
  unfold tb at *
  repeat' split at h
  all_goals first | omega | simp_all
  all_goals omega
section
variable {c : Cg} {n : Nat} {S : Mst} {cur : Nat → List Int} (h : Inv c n S cur)
include h
theorem Inv.hearM (k : Int) : Inv c (n + 1) (hearM c S k).1 cur ∧ (inB k c.co = true → (hearM c S k).2.e = 0 ∨ (hearM c S k).2.e = 14) ∧
    (inB k c.co = true → (hearM c S k).2.e = 0 → (hearM c S k).2.m.kd ≠ 14 → live (atP (hearM c S k).1.ps k.toNat).s.1 ≠ live (atP S.ps k.toNat).s.1) := by
  unfold Go.Proofs.YtadeoflkppiflaaGreatDoor.hearM
  cases hp : portAt c S k with
  | none => exact ⟨h.next, fun hb => absurd (hb.symm.trans (h.portNone hp)) (by decide), fun hb => absurd (hb.symm.trans (h.portNone hp)) (by decide)⟩
  | some x =>
    obtain ⟨j, rfl, hj, hx, hat, hP, hb⟩ := h.port hp
    dsimp only
    cases hd : x.dn with
    | nil => exact ⟨h.next, fun _ => .inr rfl, fun _ he => absurd (show (14 : Int) = 0 from he) (by decide)⟩
    | cons m rest =>
      obtain ⟨ht, h2, _, _, h3⟩ := h.hear hj hx hd
      dsimp only
      rw [if_pos h2]
      refine ⟨h3, fun _ => .inl rfl, fun _ _ h14 hl => ?_⟩
      rw [Int.toNat_natCast] at hl
      have hk := (List.getElem?_eq_some_iff.1 hx).1
      have e0 : (S.put (j : Int) { x with s := (hearF c.se c.wa x.s m).1, an := x.an ++ (hearF c.se c.wa x.s m).2.1, dn := rest }).ps = S.ps.set j { x with s := (hearF c.se c.wa x.s m).1, an := x.an ++ (hearF c.se c.wa x.s m).2.1, dn := rest } := by unfold Mst.put; rw [Int.toNat_natCast]
      dsimp only at hl h14
      rw [e0, atP_set hk, if_pos rfl, hat] at hl
      obtain ⟨m1, m2, m3⟩ := hP.fd m (by rw [hd]; simp)
      have hg : (mg m && tellsB m.kd) = true := by rw [m1, m2]; rfl
      obtain ⟨_, _, _, v10, _, vno⟩ := hP.aj.hearF hg m3 ht
      have hv : (vw (hearF c.se c.wa x.s m).1 m.li).1 = (vw x.s m.li).1 := by
        unfold vw
        rw [find_live, find_live (x.s.1), hl]
      rcases tb_ne m.kd _ h14 ht with ⟨q1, q2⟩ | ⟨q1, q2, q3⟩
      · rw [v10 q1] at hv; exact q2 hv.symm
      · rw [vno q1 q2] at hv; exact q3 hv
theorem Inv.pushM (li : Int) : Inv c (n + 1) (pushM c S li).1 cur := by
  unfold Go.Proofs.YtadeoflkppiflaaGreatDoor.pushM
  split
  · rename_i hl
    obtain ⟨l0, ln⟩ := inB_iff.1 hl
    obtain ⟨i, rfl⟩ : ∃ i : Nat, li = (i : Int) := ⟨li.toNat, by omega⟩
    rw [Int.toNat_natCast]
    obtain ⟨e, he, _⟩ := h.entry (i := i) (by omega)
    rw [he]
    dsimp only
    by_cases hr : readyE e = true
    · rw [if_pos hr]
      by_cases hv : saveV c S.es i e = 0
      · rw [if_pos hv]; exact (h.push (by omega) he hr).2.2.2 hv
      · rw [if_neg hv]
        dsimp only
        rw [(h.saved (show i < c.li by omega) e).2.1 hv]
        exact h.next
    · rw [if_neg hr]; exact h.next
  · exact h.next
theorem Inv.dropM (li : Int) : Inv c (n + 1) (dropM c S li).1 cur := by
  unfold Go.Proofs.YtadeoflkppiflaaGreatDoor.dropM
  split
  · rename_i hl
    obtain ⟨l0, ln⟩ := inB_iff.1 hl
    obtain ⟨i, rfl⟩ : ∃ i : Nat, li = (i : Int) := ⟨li.toNat, by omega⟩
    rw [Int.toNat_natCast]
    obtain ⟨e, he, _⟩ := h.entry (i := i) (by omega)
    rw [he]
    dsimp only
    by_cases hr : keptE e = true
    · rw [if_pos hr]; exact h.next
    · rw [if_neg hr]
      by_cases hv : saveV c S.es i e = 0
      · rw [if_pos hv]; exact h.drop (by omega) he (by simpa using hr) hv
      · rw [if_neg hv]
        dsimp only
        rw [(h.saved (show i < c.li by omega) e).2.1 hv]
        exact h.next
  · exact h.next
theorem Inv.drainM (li : Int) : Inv c (n + 1) (drainM c S li).1 cur := by
  unfold Go.Proofs.YtadeoflkppiflaaGreatDoor.drainM
  split
  · exact h.drain li
  · exact h.next
theorem Inv.failM : Inv c (n + 1) (failM c S) (fun i => Go.Proofs.YtadeoflkppiflaaGreatDoor.ln (failM c S).X i) := by
  refine (Inv.fresh c h.ok (forget S.X c.vo) ?_).mono (Nat.zero_le _)
  rw [forget_length _ _ (by rw [h.lX]; have := h.ok.vol; omega)]
  exact h.lX
/-- Every step. -/
theorem Inv.step (kd co li wd v : Int) : Inv c (n + 1) (stepM c S kd co li wd v).1 (curM c S kd co li wd v cur) := by
  unfold stepM curM
  by_cases h0 : kd = 0
  · subst h0; exact h.loadM co li wd
  rw [if_neg h0]
  by_cases h1 : kd = 1
  · subst h1; exact (h.storeM co li wd v).1
  rw [if_neg h1, if_neg h1]
  by_cases h2 : kd = 2
  · subst h2; exact h.reachM co li
  rw [if_neg h2]
  by_cases h3 : kd = 3
  · subst h3; exact h.flushM co li _
  rw [if_neg h3]
  by_cases h4 : kd = 4
  · subst h4; exact (h.upM co).1
  rw [if_neg h4]
  by_cases h5 : kd = 5
  · subst h5; exact (h.answerM co).1
  rw [if_neg h5]
  by_cases h6 : kd = 6
  · subst h6; exact (h.hearM co).1
  rw [if_neg h6]
  by_cases h7 : kd = 7
  · subst h7; exact h.pushM li
  rw [if_neg h7]
  by_cases h8 : kd = 8
  · subst h8; exact h.evictM co li
  rw [if_neg h8]
  by_cases h9 : kd = 9
  · subst h9; exact h.dropM li
  rw [if_neg h9]
  by_cases h10 : kd = 10
  · subst h10; exact h.drainM li
  rw [if_neg h10]
  by_cases h11 : kd = 11
  · subst h11; exact h.failM
  rw [if_neg h11, if_neg h11]
  exact h.next
end
end Go.Proofs.YtadeoflkppiflaaGreatDoor
end
section
namespace Go.Proofs.YtadeoflkppiflaaGreatDoor
open Go.RowKit
set_option linter.unusedVariables false
set_option maxHeartbeats 1000000


def MTS (W w : World) (c : Cg) (sy : Nat) (F : List Nat) (S : Mst) (w' : World) : Prop := MemTo W w c sy F S.ps S.en S.es S.xs w'
def MS (W w : World) (c : Cg) (sy : Nat) (F : List Nat) (S : Mst) : Prop := Mem W w c sy F S.ps S.en S.es S.xs
theorem Inv.dnB {c : Cg} {n : Nat} {S : Mst} {cur : Nat → List Int} (h : Inv c n S cur) : ∀ x ∈ S.ps, x.dn.length ≤ n := by
  intro x hx
  obtain ⟨j, hj⟩ := List.getElem?_of_mem hx
  have hjl := (List.getElem?_eq_some_iff.1 hj).1
  have := (h.pt j (by rw [← h.co]; exact hjl)).dn
  rw [atP_of hj] at this
  exact this
theorem tellL_len (o : Mk) (a : Ms) : (tellL o a).length ≤ 8 := by
  unfold tellL coresL
  rw [List.length_map]
  exact coresTo_len o 8
theorem tellL_to {o : Mk} {a : Ms} {co : Nat} (ho : ∀ j : Nat, j < 8 → hasM o j = true → j < co) (ha : mg a = true) : ∀ d ∈ tellL o a, 0 ≤ d.to ∧ d.to < co ∧ mg d.m = true := by
  intro d hd
  obtain ⟨h1, h2⟩ := tell_mem hd
  obtain ⟨j, hj, he⟩ := isC_nat (has_isC h1)
  rw [he] at h1
  have := ho j hj h1
  exact ⟨by omega, by omega, by rw [h2]; exact ha⟩
section
variable {W w : World} {c : Cg} {sy n : Nat} {F : List Nat} {S : Mst} {cur : Nat → List Int} (hm : MS W w c sy F S) (hI : Inv c n S cur)
include hm
theorem MS.same {w' : World} (hc : Chg [] w w') : MTS W w c sy F S w' := Mem.stay hm hc
include hI
end
end Go.Proofs.YtadeoflkppiflaaGreatDoor
end
section
namespace Go.Proofs.YtadeoflkppiflaaGreatDoor
open Go.RowKit
set_option linter.unusedVariables false
set_option maxHeartbeats 1000000
set_option maxRecDepth 100000
attribute [local go_sem ↓] append_appS copy_copS clear_clrS make_mkS cell_row frozen_row loadLine storeLine loadSlot storeSlot heap_drew heap_drewN heap_alloc heap_past heap_setCell heap_putRow vs_get slc_st slc_li slc_us slice_slS loadMsg storeMsg loadHas storeHas msc_kd msc_li msc_di msc_ke
attribute [local go_sem] rowCell_some rowFrozen_some rowHas_some rowIn_some rowPart_full rowPart_lit rowPut_full rowPut_lit rowSet_some size_putRow vs_size vs_one wideLine wideSlot run_loadS run_storeS run_appS run_copS run_clrS run_mkS loadW_at storeW_at fit_all fit_le one_int one_bool one_pointer one_slice allOne_list putRow_new ne_size1 ne_size2 ne_size3 ne_size4 zero8_length lines_nil line_eq lit8 slc_size slc_one slc_part slc_in fold_slt fold_slc slc_set_us wideMsg wideHas run_slS msc_size msc_one msc_part msc_in fold_msc msc_putDi msc_putKe msc_putX msc_has ms4_lit
attribute [local simp ↓] heap_drew heap_drewN heap_alloc heap_past heap_setCell heap_putRow
attribute [local simp] rowCell_some rowFrozen_some rowHas_some rowIn_some rowPart_full rowPart_lit rowPut_full rowPut_lit rowSet_some size_putRow vs_size fit_all putRow_new ne_size1 ne_size2 ne_size3 ne_size4 zero8_length slc_size msc_size msc_putDi msc_putKe msc_putX msc_has fit_le
attribute [local go_sem ↓] ec_he ec_di ec_ow ec_sh ec_bu ec_by ec_wa sc_to
attribute [local go_sem] mi_and mi_or mi_not mi_beq0 mi_bne0 ec_size ec_one ec_part ec_in ec_has ec_setDi ec_setOw ec_setSh ec_setBu ec_setBy ec_setWa ec_setSh0 ec_setWa0 ec_putM sc_size sc_one sc_part sc_in
attribute [local simp] ec_size sc_size ec_setDi ec_setOw ec_setSh ec_setBu ec_setBy ec_setWa ec_setSh0 ec_setWa0 ec_putM
attribute [local go_sem ↓] loadEn storeEn loadSd storeSd en_z0
attribute [local go_sem] wideEn wideSd fold_sc size11 putRow_newB putRow_newC ms5_lit
attribute [local simp] en_z0 putRow_newB putRow_newC fit_le ec_has



attribute [local go_sem ↓] mlitZ zenc_po zenc_en zenc_q
attribute [local simp] mlitZ

attribute [local go_sem ↓] loadMst mstc_0 mstc_1 mstc_2 mstc_3 mstc_4
attribute [local go_sem] wideMst mstc_size mstc_one mstc_part
theorem MTS.wrap {W w w1 w5 w6 : World} {c : Cg} {sy : Nat} {F : List Nat} {S : Mst} (hW : W.heap.size ≤ w.heap.size) (hF : ∀ k ∈ F, k < w.heap.size) (hc : Chg [] w w1) (h : MTS W w1 c sy F S w5) (l : List Nat) (hl : ∀ b ∈ l, w.heap.size ≤ b ∧ (b < w1.heap.size ∨ w5.heap.size ≤ b)) (hc2 : Chg l w5 w6) : MTS W w c sy F S w6 := by
  obtain ⟨F', hm, hch, hk⟩ := h
  have ho := hm.old
  refine ⟨F', hm.keepL hc2 (fun b hb hbF => ?_) (fun b hb => Nat.le_trans hW (hl b hb).1), ?_, fun k hkF => ?_⟩
  · rcases (hl b hb).2 with h1 | h1
    · rcases hk b hbF with h2 | h2
      · have := hF b h2; have := (hl b hb).1; omega
      · omega
    · have := ho b hbF; omega
  · exact ((hc.mono (l' := F) (by simp)).trans' hch (fun k hk => .inl hk)).trans' hc2 (fun k hk => .inr (hl k hk).1)
  · rcases hk k hkF with h2 | h2
    · exact .inl h2
    · exact .inr (Nat.le_trans hc.size h2)
section
variable (c : Cg) (S : Mst) (k li wd v kd : Int)
end
end Go.Proofs.YtadeoflkppiflaaGreatDoor
end
section
namespace Go.Proofs.YtadeoflkppiflaaGreatDoor
open Go.RowKit
set_option linter.unusedVariables false
set_option maxRecDepth 100000
set_option maxHeartbeats 2000000 in
theorem rgood_0 (c0 c1 c2 c3 c4 c5 c6 : Int) (w : World) (h : ¬ (1 ≤ c0 ∧ c0 ≤ 8)) : Calls Tryz.prog 17 #[.agg #[.int .i64 c0, .int .i64 c1, .int .i64 c2, .int .i64 c3, .int .i64 c4, .int .i64 c5, .int .i64 c6]] w fun e w' => e = .returned (.bool false) ∧ w' = w.alloc (.cells #[.int .i64 c0, .int .i64 c1, .int .i64 c2, .int .i64 c3, .int .i64 c4, .int .i64 c5, .int .i64 c6] 23) := by
  by_cases h7 : 1 ≤ c0
  · have h8 : decide (c0 ≤ 8) = false := by simp; omega
    clear h
    go_enter Tryz.func17, Tryz.ntmps17
    dsimp only [List.append]
    go_wp2
    go_ret
    exact ⟨rfl, rfl⟩
  · have h8 : decide (1 ≤ c0) = false := by simp; omega
    clear h h7
    go_enter Tryz.func17, Tryz.ntmps17
    dsimp only [List.append]
    go_wp2
    go_ret
    exact ⟨rfl, rfl⟩
set_option maxHeartbeats 2000000 in
theorem rgood_1 (c0 c1 c2 c3 c4 c5 c6 : Int) (w : World) (p0 : 1 ≤ c0) (q0 : c0 ≤ 8) (h : ¬ (2 ≤ c1 ∧ c1 ≤ 64)) : Calls Tryz.prog 17 #[.agg #[.int .i64 c0, .int .i64 c1, .int .i64 c2, .int .i64 c3, .int .i64 c4, .int .i64 c5, .int .i64 c6]] w fun e w' => e = .returned (.bool false) ∧ w' = w.alloc (.cells #[.int .i64 c0, .int .i64 c1, .int .i64 c2, .int .i64 c3, .int .i64 c4, .int .i64 c5, .int .i64 c6] 23) := by
  by_cases h7 : 2 ≤ c1
  · have h8 : decide (c1 ≤ 64) = false := by simp; omega
    clear h
    go_enter Tryz.func17, Tryz.ntmps17
    dsimp only [List.append]
    go_wp2
    go_ret
    exact ⟨rfl, rfl⟩
  · have h8 : decide (2 ≤ c1) = false := by simp; omega
    clear h h7
    go_enter Tryz.func17, Tryz.ntmps17
    dsimp only [List.append]
    go_wp2
    go_ret
    exact ⟨rfl, rfl⟩
set_option maxHeartbeats 2000000 in
theorem rgood_2 (c0 c1 c2 c3 c4 c5 c6 : Int) (w : World) (p0 : 1 ≤ c0) (q0 : c0 ≤ 8) (p1 : 2 ≤ c1) (q1 : c1 ≤ 64) (h : ¬ (1 ≤ c2 ∧ c2 ≤ c1 - 1)) : Calls Tryz.prog 17 #[.agg #[.int .i64 c0, .int .i64 c1, .int .i64 c2, .int .i64 c3, .int .i64 c4, .int .i64 c5, .int .i64 c6]] w fun e w' => e = .returned (.bool false) ∧ w' = w.alloc (.cells #[.int .i64 c0, .int .i64 c1, .int .i64 c2, .int .i64 c3, .int .i64 c4, .int .i64 c5, .int .i64 c6] 23) := by
  by_cases h7 : 1 ≤ c2
  · have h8 : decide (c2 < c1) = false := by simp; omega
    clear h
    go_enter Tryz.func17, Tryz.ntmps17
    dsimp only [List.append]
    go_wp2
    go_ret
    exact ⟨rfl, rfl⟩
  · have h8 : decide (1 ≤ c2) = false := by simp; omega
    clear h h7
    go_enter Tryz.func17, Tryz.ntmps17
    dsimp only [List.append]
    go_wp2
    go_ret
    exact ⟨rfl, rfl⟩
set_option maxHeartbeats 2000000 in
theorem wdrgood_3 (c0 c1 c2 c3 c4 c5 c6 : Int) (w : World) (p0 : 1 ≤ c0) (q0 : c0 ≤ 8) (p1 : 2 ≤ c1) (q1 : c1 ≤ 64) (p2 : 1 ≤ c2) (q2 : c2 ≤ c1 - 1) (h : ¬ (c3 = 1 ∨ c3 = 2 ∨ c3 = 4 ∨ c3 = 8)) : Calls Tryz.prog 17 #[.agg #[.int .i64 c0, .int .i64 c1, .int .i64 c2, .int .i64 c3, .int .i64 c4, .int .i64 c5, .int .i64 c6]] w fun e w' => e = .returned (.bool false) ∧ w' = w.alloc (.cells #[.int .i64 c0, .int .i64 c1, .int .i64 c2, .int .i64 c3, .int .i64 c4, .int .i64 c5, .int .i64 c6] 23) := by
  have q2' : c2 < c1 := by omega
  clear q2
  have e1 : (c3 == 1) = false := by simp; omega
  have e2 : (c3 == 2) = false := by simp; omega
  have e4 : (c3 == 4) = false := by simp; omega
  have e8 : (c3 == 8) = false := by simp; omega
  clear h
  go_enter Tryz.func17, Tryz.ntmps17
  dsimp only [List.append]
  go_wp2
  go_ret
  exact ⟨rfl, rfl⟩
set_option maxHeartbeats 2000000 in
theorem rgood_4 (c0 c1 c2 c3 c4 c5 c6 : Int) (w : World) (p0 : 1 ≤ c0) (q0 : c0 ≤ 8) (p1 : 2 ≤ c1) (q1 : c1 ≤ 64) (p2 : 1 ≤ c2) (q2 : c2 ≤ c1 - 1) (s : c3 = 1 ∨ c3 = 2 ∨ c3 = 4 ∨ c3 = 8) (h : ¬ (1 ≤ c4 ∧ c4 ≤ 8)) : Calls Tryz.prog 17 #[.agg #[.int .i64 c0, .int .i64 c1, .int .i64 c2, .int .i64 c3, .int .i64 c4, .int .i64 c5, .int .i64 c6]] w fun e w' => e = .returned (.bool false) ∧ w' = w.alloc (.cells #[.int .i64 c0, .int .i64 c1, .int .i64 c2, .int .i64 c3, .int .i64 c4, .int .i64 c5, .int .i64 c6] 23) := by
  have q2' : c2 < c1 := by omega
  clear q2
  obtain rfl | rfl | rfl | rfl := s
  all_goals
    by_cases h7 : 1 ≤ c4
    · have h8 : decide (c4 ≤ 8) = false := by simp; omega
      clear h
      go_enter Tryz.func17, Tryz.ntmps17
      dsimp only [List.append]
      go_wp2
      go_ret
      exact ⟨rfl, rfl⟩
    · have h8 : decide (1 ≤ c4) = false := by simp; omega
      clear h h7
      go_enter Tryz.func17, Tryz.ntmps17
      dsimp only [List.append]
      go_wp2
      go_ret
      exact ⟨rfl, rfl⟩
set_option maxHeartbeats 2000000 in
theorem rgood_5 (c0 c1 c2 c3 c4 c5 c6 : Int) (w : World) (p0 : 1 ≤ c0) (q0 : c0 ≤ 8) (p1 : 2 ≤ c1) (q1 : c1 ≤ 64) (p2 : 1 ≤ c2) (q2 : c2 ≤ c1 - 1) (s : c3 = 1 ∨ c3 = 2 ∨ c3 = 4 ∨ c3 = 8) (p4 : 1 ≤ c4) (q4 : c4 ≤ 8) (h : ¬ (1 ≤ c5 ∧ c5 ≤ 16)) : Calls Tryz.prog 17 #[.agg #[.int .i64 c0, .int .i64 c1, .int .i64 c2, .int .i64 c3, .int .i64 c4, .int .i64 c5, .int .i64 c6]] w fun e w' => e = .returned (.bool false) ∧ w' = w.alloc (.cells #[.int .i64 c0, .int .i64 c1, .int .i64 c2, .int .i64 c3, .int .i64 c4, .int .i64 c5, .int .i64 c6] 23) := by
  have q2' : c2 < c1 := by omega
  clear q2
  obtain rfl | rfl | rfl | rfl := s
  all_goals
    by_cases h7 : 1 ≤ c5
    · have h8 : decide (c5 ≤ 16) = false := by simp; omega
      clear h
      go_enter Tryz.func17, Tryz.ntmps17
      dsimp only [List.append]
      go_wp2
      go_ret
      exact ⟨rfl, rfl⟩
    · have h8 : decide (1 ≤ c5) = false := by simp; omega
      clear h h7
      go_enter Tryz.func17, Tryz.ntmps17
      dsimp only [List.append]
      go_wp2
      go_ret
      exact ⟨rfl, rfl⟩
set_option maxHeartbeats 2000000 in
theorem wdrgood_6 (c0 c1 c2 c3 c4 c5 c6 : Int) (w : World) (p0 : 1 ≤ c0) (q0 : c0 ≤ 8) (p1 : 2 ≤ c1) (q1 : c1 ≤ 64) (p2 : 1 ≤ c2) (q2 : c2 ≤ c1 - 1) (s : c3 = 1 ∨ c3 = 2 ∨ c3 = 4 ∨ c3 = 8) (p4 : 1 ≤ c4) (q4 : c4 ≤ 8) (p5 : 1 ≤ c5) (q5 : c5 ≤ 16) (h : ¬ (1 ≤ c6 ∧ c6 ≤ 16)) : Calls Tryz.prog 17 #[.agg #[.int .i64 c0, .int .i64 c1, .int .i64 c2, .int .i64 c3, .int .i64 c4, .int .i64 c5, .int .i64 c6]] w fun e w' => e = .returned (.bool false) ∧ w' = w.alloc (.cells #[.int .i64 c0, .int .i64 c1, .int .i64 c2, .int .i64 c3, .int .i64 c4, .int .i64 c5, .int .i64 c6] 23) := by
  have q2' : c2 < c1 := by omega
  clear q2
  obtain rfl | rfl | rfl | rfl := s
  all_goals
    by_cases h7 : 1 ≤ c6
    · have h8 : decide (c6 ≤ 16) = false := by simp; omega
      clear h
      go_enter Tryz.func17, Tryz.ntmps17
      dsimp only [List.append]
      go_wp2
      go_ret
      exact ⟨rfl, rfl⟩
    · have h8 : decide (1 ≤ c6) = false := by simp; omega
      clear h h7
      go_enter Tryz.func17, Tryz.ntmps17
      dsimp only [List.append]
      go_wp2
      go_ret
      exact ⟨rfl, rfl⟩
set_option maxHeartbeats 2000000 in
theorem wdrgood_7 (c0 c1 c2 c3 c4 c5 c6 : Int) (w : World) (p0 : 1 ≤ c0) (q0 : c0 ≤ 8) (p1 : 2 ≤ c1) (q1 : c1 ≤ 64) (p2 : 1 ≤ c2) (q2 : c2 ≤ c1 - 1) (s : c3 = 1 ∨ c3 = 2 ∨ c3 = 4 ∨ c3 = 8) (p4 : 1 ≤ c4) (q4 : c4 ≤ 8) (p5 : 1 ≤ c5) (q5 : c5 ≤ 16) (p6 : 1 ≤ c6) (q6 : c6 ≤ 16) : Calls Tryz.prog 17 #[.agg #[.int .i64 c0, .int .i64 c1, .int .i64 c2, .int .i64 c3, .int .i64 c4, .int .i64 c5, .int .i64 c6]] w fun e w' => e = .returned (.bool true) ∧ w' = w.alloc (.cells #[.int .i64 c0, .int .i64 c1, .int .i64 c2, .int .i64 c3, .int .i64 c4, .int .i64 c5, .int .i64 c6] 23) := by
  have q2' : c2 < c1 := by omega
  clear q2
  obtain rfl | rfl | rfl | rfl := s
  all_goals
    go_enter Tryz.func17, Tryz.ntmps17
    dsimp only [List.append]
    go_wp2
    go_ret
    exact ⟨rfl, rfl⟩
set_option maxHeartbeats 2000000 in
theorem wdrgood_any (c0 c1 c2 c3 c4 c5 c6 : Int) (w : World) : Calls Tryz.prog 17 #[.agg #[.int .i64 c0, .int .i64 c1, .int .i64 c2, .int .i64 c3, .int .i64 c4, .int .i64 c5, .int .i64 c6]] w fun e w' => e = .returned (.bool (goodB c0 c1 c2 c3 c4 c5 c6)) ∧ w' = w.alloc (.cells #[.int .i64 c0, .int .i64 c1, .int .i64 c2, .int .i64 c3, .int .i64 c4, .int .i64 c5, .int .i64 c6] 23) := by
  by_cases h0 : 1 ≤ c0 ∧ c0 ≤ 8
  rotate_left
  · have e : goodB c0 c1 c2 c3 c4 c5 c6 = false := by unfold goodB; simp only [decide_eq_false_iff_not]; omega
    rw [e]; exact rgood_0 c0 c1 c2 c3 c4 c5 c6 w h0
  by_cases h1 : 2 ≤ c1 ∧ c1 ≤ 64
  rotate_left
  · have e : goodB c0 c1 c2 c3 c4 c5 c6 = false := by unfold goodB; simp only [decide_eq_false_iff_not]; omega
    rw [e]; exact rgood_1 c0 c1 c2 c3 c4 c5 c6 w h0.1 h0.2 h1
  by_cases h2 : 1 ≤ c2 ∧ c2 ≤ c1 - 1
  rotate_left
  · have e : goodB c0 c1 c2 c3 c4 c5 c6 = false := by unfold goodB; simp only [decide_eq_false_iff_not]; omega
    rw [e]; exact rgood_2 c0 c1 c2 c3 c4 c5 c6 w h0.1 h0.2 h1.1 h1.2 h2
  by_cases h3 : c3 = 1 ∨ c3 = 2 ∨ c3 = 4 ∨ c3 = 8
  rotate_left
  · have e : goodB c0 c1 c2 c3 c4 c5 c6 = false := by unfold goodB; simp only [decide_eq_false_iff_not]; omega
    rw [e]; exact wdrgood_3 c0 c1 c2 c3 c4 c5 c6 w h0.1 h0.2 h1.1 h1.2 h2.1 h2.2 h3
  by_cases h4 : 1 ≤ c4 ∧ c4 ≤ 8
  rotate_left
  · have e : goodB c0 c1 c2 c3 c4 c5 c6 = false := by unfold goodB; simp only [decide_eq_false_iff_not]; omega
    rw [e]; exact rgood_4 c0 c1 c2 c3 c4 c5 c6 w h0.1 h0.2 h1.1 h1.2 h2.1 h2.2 h3 h4
  by_cases h5 : 1 ≤ c5 ∧ c5 ≤ 16
  rotate_left
  · have e : goodB c0 c1 c2 c3 c4 c5 c6 = false := by unfold goodB; simp only [decide_eq_false_iff_not]; omega
    rw [e]; exact rgood_5 c0 c1 c2 c3 c4 c5 c6 w h0.1 h0.2 h1.1 h1.2 h2.1 h2.2 h3 h4.1 h4.2 h5
  by_cases h6 : 1 ≤ c6 ∧ c6 ≤ 16
  rotate_left
  · have e : goodB c0 c1 c2 c3 c4 c5 c6 = false := by unfold goodB; simp only [decide_eq_false_iff_not]; omega
    rw [e]; exact wdrgood_6 c0 c1 c2 c3 c4 c5 c6 w h0.1 h0.2 h1.1 h1.2 h2.1 h2.2 h3 h4.1 h4.2 h5.1 h5.2 h6
  have e : goodB c0 c1 c2 c3 c4 c5 c6 = true := by unfold goodB; simp only [decide_eq_true_eq]; omega
  rw [e]; exact wdrgood_7 c0 c1 c2 c3 c4 c5 c6 w h0.1 h0.2 h1.1 h1.2 h2.1 h2.2 h3 h4.1 h4.2 h5.1 h5.2 h6.1 h6.2
end Go.Proofs.YtadeoflkppiflaaGreatDoor
end
section
namespace Go.Proofs.YtadeoflkppiflaaGreatDoor
open Go.RowKit
set_option linter.unusedVariables false
set_option maxHeartbeats 1000000
set_option maxRecDepth 100000
attribute [local go_sem ↓] append_appS copy_copS clear_clrS make_mkS cell_row frozen_row loadLine storeLine loadSlot storeSlot heap_drew heap_drewN heap_alloc heap_past heap_setCell heap_putRow vs_get slc_st slc_li slc_us slice_slS loadMsg storeMsg loadHas storeHas msc_kd msc_li msc_di msc_ke
attribute [local go_sem] rowCell_some rowFrozen_some rowHas_some rowIn_some rowPart_full rowPart_lit rowPut_full rowPut_lit rowSet_some size_putRow vs_size vs_one wideLine wideSlot run_loadS run_storeS run_appS run_copS run_clrS run_mkS loadW_at storeW_at fit_all fit_le one_int one_bool one_pointer one_slice allOne_list putRow_new ne_size1 ne_size2 ne_size3 ne_size4 zero8_length lines_nil line_eq lit8 slc_size slc_one slc_part slc_in fold_slt fold_slc slc_set_us wideMsg wideHas run_slS msc_size msc_one msc_part msc_in fold_msc msc_putDi msc_putKe msc_putX msc_has ms4_lit
attribute [local simp ↓] heap_drew heap_drewN heap_alloc heap_past heap_setCell heap_putRow
attribute [local simp] rowCell_some rowFrozen_some rowHas_some rowIn_some rowPart_full rowPart_lit rowPut_full rowPut_lit rowSet_some size_putRow vs_size fit_all putRow_new ne_size1 ne_size2 ne_size3 ne_size4 zero8_length slc_size msc_size msc_putDi msc_putKe msc_putX msc_has fit_le
attribute [local go_sem ↓] ec_he ec_di ec_ow ec_sh ec_bu ec_by ec_wa sc_to
attribute [local go_sem] mi_and mi_or mi_not mi_beq0 mi_bne0 ec_size ec_one ec_part ec_in ec_has ec_setDi ec_setOw ec_setSh ec_setBu ec_setBy ec_setWa ec_setSh0 ec_setWa0 ec_putM sc_size sc_one sc_part sc_in
attribute [local simp] ec_size sc_size ec_setDi ec_setOw ec_setSh ec_setBu ec_setBy ec_setWa ec_setSh0 ec_setWa0 ec_putM
attribute [local go_sem ↓] loadEn storeEn loadSd storeSd en_z0
attribute [local go_sem] wideEn wideSd fold_sc size11 putRow_newB putRow_newC ms5_lit
attribute [local simp] en_z0 putRow_newB putRow_newC fit_le ec_has



attribute [local go_sem ↓] mlitZ zenc_po zenc_en zenc_q
attribute [local simp] mlitZ

theorem storeMst (p x : Value) : Instr.storeAt 42 p x = storeS 42 5 p x := rfl
theorem fold_mst (C : Array Value) (s : MStp) (h : C.size = 5) : Array.foldl (fun cs y => cs.setIfInBounds y.snd y.fst) C (mstc s).zipIdx 0 5 = mstc s := fold_all _ _ _ (mstc_size s) h
def mstZ : MStp := ⟨0, 0, 0, 0, 0⟩
theorem mst_z0 : (#[.int .i64 0, .int .i64 0, .int .i64 0, .int .i64 0, .int .u64 0] : Array Value) = mstc mstZ := rfl
theorem mstc_sizeN (x : MStp) : (mstc x).size = 5 := by rw [mstc_size]
theorem cg_sizeN (c : Cg) : c.cells.size = 7 := by rw [cg_size]
theorem cg_co0 (c : Cg) : c.cells[0]? = some (.int .i64 c.co) := rfl
attribute [local go_sem ↓] mst_z0 storeMst loadMst mstc_0 mstc_1 mstc_2 mstc_3 mstc_4 loadCg cg_li cg_vo cg_qu cg_co0
attribute [local simp] mst_z0 mstc_sizeN cg_sizeN
attribute [local go_sem] fold_mst wideMst mstc_sizeN mstc_one mstc_part wideCg cg_sizeN cg_one cg_part
theorem wf_u64v {v : Int} (h : (Lit.int .u64 v).wf = true) : 0 ≤ v := (bounds_u64 h).1
def kMst : List Kd := [.int .i64, .int .i64, .int .i64, .int .i64, .int .u64]
theorem mstep_cellsV {w : World} {cs : List Value} (h : AreKd w kMst cs) : ∃ x : MStp, cs = (mstc x).toList ∧ 0 ≤ x.v := by
  obtain ⟨v0, c0, rfl, h0, hA⟩ := AreKd.head h
  obtain ⟨v1, c1, rfl, h1, hB⟩ := AreKd.head hA
  obtain ⟨v2, c2, rfl, h2, hC⟩ := AreKd.head hB
  obtain ⟨v3, c3, rfl, h3, hD⟩ := AreKd.head hC
  obtain ⟨v4, c4, rfl, h4, hE⟩ := AreKd.head hD
  obtain rfl := AreKd.done hE
  simp only [IsKd] at h0 h1 h2 h3 h4
  obtain ⟨kd, rfl, _⟩ := h0
  obtain ⟨co, rfl, _⟩ := h1
  obtain ⟨li, rfl, _⟩ := h2
  obtain ⟨wd, rfl, _⟩ := h3
  obtain ⟨v, rfl, hv⟩ := h4
  refine ⟨⟨kd, co, li, wd, v⟩, rfl, ?_⟩
  have := wf_u64v hv
  exact this

/-! ### What the statements over steps have in common -/
theorem Tabs.keep0 {w w' : World} (h : Tabs w) (hc : Chg [] w w') : Tabs w' := ⟨h.1.keep hc (by simp), h.2.keep hc (by simp)⟩
theorem cg_of {c0 c1 c2 c3 c4 c5 c6 : Int} (h : goodB c0 c1 c2 c3 c4 c5 c6 = true) : ∃ c : Cg, c.Ok ∧ c0 = (c.co : Int) ∧ c1 = (c.li : Int) ∧ c2 = (c.vo : Int) ∧ c3 = (c.se : Int) ∧ c4 = (c.wa : Int) ∧ c5 = (c.qu : Int) ∧ c6 = (c.st : Int) := by
  unfold goodB at h
  have h := of_decide_eq_true h
  refine ⟨⟨c0.toNat, c1.toNat, c2.toNat, c3.toNat, c4.toNat, c5.toNat, c6.toNat⟩, ⟨?_, ?_, ?_, ?_, ?_, ?_, ?_, ?_, ?_, ?_, ?_⟩, ?_, ?_, ?_, ?_, ?_, ?_, ?_⟩
  all_goals dsimp only
  all_goals first | omega | (unfold goodNew; omega)
theorem mgood_false (c0 c1 c2 c3 c4 c5 c6 : Int) (w : World) (h : goodB c0 c1 c2 c3 c4 c5 c6 = false) : Calls Tryz.prog 17 #[.agg #[.int .i64 c0, .int .i64 c1, .int .i64 c2, .int .i64 c3, .int .i64 c4, .int .i64 c5, .int .i64 c6]] w fun e w' => e = .returned (.bool false) ∧ Chg [] w w' := by
  refine (wdrgood_any c0 c1 c2 c3 c4 c5 c6 w).mono ?_
  rintro e w' ⟨rfl, rfl⟩
  exact ⟨by rw [h], (Chg.refl [] w).alloc _⟩
theorem mgood_true (c : Cg) (hc : c.Ok) (w : World) : Calls Tryz.prog 17 #[.agg c.cells] w fun e w' => e = .returned (.bool true) ∧ Chg [] w w' := by
  refine (wdrgood_any c.co c.li c.vo c.se c.wa c.qu c.st w).mono ?_
  rintro e w' ⟨rfl, rfl⟩
  exact ⟨by rw [good_ok c hc], (Chg.refl [] w).alloc _⟩
theorem mstep_row {w : World} {o b n : Nat} {xs : List Value} (hA : Sl w 5 (some ⟨b, o, none⟩) n xs) {i : Nat} (hi : i < n) (hk : AreKd w kMst ((xs.drop (i * 5)).take 5)) :
    ∃ (x : MStp) (c : Array Value) (t : TypeId) (f : Nat × Nat), w.heap[b]? = some (.cells c t f) ∧ rowIn (some (.cells c t f)) (o + i * 5) 5 = true ∧ rowPart (some (.cells c t f)) (o + i * 5) 5 = mstc x ∧ 0 ≤ x.v := by
  obtain ⟨x, hy, hv⟩ := mstep_cellsV hk
  obtain ⟨cs, t, f, hb, _, hp⟩ := hA.elem (by omega) hi hy
  have h0 := hp 0 5 (by omega)
  rw [Nat.add_zero] at h0
  refine ⟨x, cs, t, f, hb, h0.1, ?_, hv⟩
  rw [h0.2]
  simp [mstc]
section
variable {W w : World} {c : Cg} {sy n : Nat} {F : List Nat} {S : Mst} {cur : Nat → List Int} (hm : MS W w c sy F S) (hI : Inv c n S cur)
include hm hI
end
end Go.Proofs.YtadeoflkppiflaaGreatDoor
end
