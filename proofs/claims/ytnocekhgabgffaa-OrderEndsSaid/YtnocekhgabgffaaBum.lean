/- What a bus is, and does, as plain functions; its cells. No condition. -/
import Derived.Test.YtnocekhgabgffaaSeo
import Derived.Test.YtnocekhgabgffaaEvt
import Derived.Test.YtnocekhgabgffaaMaq
namespace Go.Proofs.Ytnocekhgabgffaa
open Go.RowKit
set_option linter.unusedVariables false
set_option maxHeartbeats 1000000

/-! ### An entry of a store buffer, a place, the newest of a place -/
structure Be where
  fl : Bool
  li : Int
  wo : Int
  va : Int
deriving DecidableEq
def Be.enc (e : Be) : List Value := [.bool e.fl, .int .i64 e.li, .int .i64 e.wo, .int .u64 e.va]
def bec (e : Be) : Array Value := (Be.enc e).toArray
def beZ : Be := ⟨false, 0, 0, 0⟩
theorem Be.len (e : Be) : (Be.enc e).length = 4 := rfl
theorem Be.one (e : Be) : ∀ v ∈ Be.enc e, v.oneCell' = true := by
  intro v hv
  simp only [Be.enc, List.mem_cons, List.not_mem_nil, or_false] at hv
  rcases hv with rfl | rfl | rfl | rfl <;> rfl
theorem bec_size (e : Be) : (bec e).size = 4 := by simp [bec, Be.enc]
theorem bec_one (e : Be) : allOne (bec e) := allOne_list _ (List.all_eq_true.2 (Be.one e))
theorem bec_fl (e : Be) : (bec e)[0]? = some (.bool e.fl) := rfl
theorem bec_li (e : Be) : (bec e)[1]? = some (.int .i64 e.li) := rfl
theorem bec_wo (e : Be) : (bec e)[2]? = some (.int .i64 e.wo) := rfl
theorem bec_va (e : Be) : (bec e)[3]? = some (.int .u64 e.va) := rfl
theorem bec_lit (f : Bool) (l o v : Int) : (#[.bool f, .int .i64 l, .int .i64 o, .int .u64 v] : Array Value) = bec ⟨f, l, o, v⟩ := rfl
theorem bec_enc (e : Be) : bec e = (Be.enc e).toArray := rfl
theorem bec_ne (e : Be) : (bec e = #[]) = False := eq_false (fun h => by have := congrArg Array.size h; rw [bec_size] at this; cases this)
theorem bec_set0 (e : Be) (v : Bool) : (bec e).setIfInBounds 0 (.bool v) = bec ⟨v, e.li, e.wo, e.va⟩ := by simp [bec, Be.enc]
theorem bec_set1 (e : Be) (v : Int) : (bec e).setIfInBounds 1 (.int .i64 v) = bec ⟨e.fl, v, e.wo, e.va⟩ := by simp [bec, Be.enc]
theorem bec_set2 (e : Be) (v : Int) : (bec e).setIfInBounds 2 (.int .i64 v) = bec ⟨e.fl, e.li, v, e.va⟩ := by simp [bec, Be.enc]
theorem bec_set3 (e : Be) (v : Int) : (bec e).setIfInBounds 3 (.int .u64 v) = bec ⟨e.fl, e.li, e.wo, v⟩ := by simp [bec, Be.enc]
def spC (l o : Int) : Array Value := #[.int .i64 l, .int .i64 o]
theorem spC_set0 (l o v : Int) : (spC l o).setIfInBounds 0 (.int .i64 v) = spC v o := by simp [spC]
theorem spC_set1 (l o v : Int) : (spC l o).setIfInBounds 1 (.int .i64 v) = spC l v := by simp [spC]
theorem spC_0 (l o : Int) : (spC l o)[0]? = some (.int .i64 l) := rfl
theorem spC_1 (l o : Int) : (spC l o)[1]? = some (.int .i64 o) := rfl
theorem spC_lit (l o : Int) : (#[.int .i64 l, .int .i64 o] : Array Value) = spC l o := rfl
theorem fold_spC (C : Array Value) (l o : Int) (h : C.size = 2) : Array.foldl (fun cs y => cs.setIfInBounds y.snd y.fst) C (spC l o).zipIdx 0 2 = spC l o := fold_all _ _ _ rfl h
theorem spC_ne (l o : Int) : (spC l o = #[]) = False := eq_false (fun h => by have := congrArg Array.size h; cases this)
def spV (k : Int × Int) : Value := .agg (spC k.1 k.2)
theorem spC_size (l o : Int) : (spC l o).size = 2 := by simp [spC]
theorem spC_one (l o : Int) : allOne (spC l o) := allOne_list _ rfl
theorem bec_at (e : Be) (t : TypeId) (f : Nat × Nat) : rowPart (some (.cells (bec e) t f)) 1 2 = spC e.li e.wo := rfl
theorem bec_in (e : Be) (t : TypeId) (f : Nat × Nat) : rowIn (some (.cells (bec e) t f)) 1 2 = true := by rw [rowIn_some, bec_size]; rfl
def nwC (m v : Int) : Array Value := #[.int .i64 m, .int .u64 v]
def nwV (p : Int × Int) : Value := .agg (nwC p.1 p.2)
theorem nwC_size (l o : Int) : (nwC l o).size = 2 := by simp [nwC]
theorem nwC_one (l o : Int) : allOne (nwC l o) := allOne_list _ rfl
theorem nwC_lit (m v : Int) : (#[.int .i64 m, .int .u64 v] : Array Value) = nwC m v := rfl
theorem nwC_0 (m v : Int) : (nwC m v)[0]? = some (.int .i64 m) := rfl
theorem nwC_1 (m v : Int) : (nwC m v)[1]? = some (.int .u64 v) := rfl
theorem nwC_set0 (m v k : Int) : (nwC m v).setIfInBounds 0 (.int .i64 k) = nwC k v := by simp [nwC]
theorem nwC_set1 (m v k : Int) : (nwC m v).setIfInBounds 1 (.int .u64 k) = nwC m k := by simp [nwC]
theorem nwC_ne (m v : Int) : (nwC m v = #[]) = False := eq_false (fun h => by have := congrArg Array.size h; rw [nwC_size] at this; cases this)
theorem fold_nwC (C : Array Value) (l o : Int) (h : C.size = 2) : Array.foldl (fun cs y => cs.setIfInBounds y.snd y.fst) C (nwC l o).zipIdx 0 2 = nwC l o := fold_all _ _ _ rfl h
theorem fold_bec (C : Array Value) (e : Be) (h : C.size = 4) : Array.foldl (fun cs y => cs.setIfInBounds y.snd y.fst) C (bec e).zipIdx 0 4 = bec e := fold_all _ _ _ (bec_size e) h
theorem fold_at (e : Be) (l o : Int) : Array.foldl (fun cs x => cs.setIfInBounds (1 + x.snd) x.fst) (bec e) (spC l o).zipIdx 0 2 = bec ⟨e.fl, l, o, e.va⟩ := rfl
def intEnc (x : Int) : List Value := [.int .i64 x]
theorem intEnc_len (x : Int) : (intEnc x).length = 1 := rfl
theorem intEnc_one (x : Int) : ∀ v ∈ intEnc x, v.oneCell' = true := by intro v hv; simp only [intEnc, List.mem_singleton] at hv; subst hv; rfl
/-- Whole numbers one behind the other. -/
def ic (xs : List Int) : Array Value := (xs.map (Value.int .i64)).toArray
theorem ic_size (xs : List Int) : (ic xs).size = xs.length := by simp [ic]
theorem ic_get (xs : List Int) (i : Nat) : (ic xs)[i]? = (xs[i]?).map (Value.int .i64) := by simp [ic]
theorem ic_set (xs : List Int) (i : Nat) (v : Int) : (ic xs).setIfInBounds i (.int .i64 v) = ic (xs.set i v) := by simp [ic, List.map_set]

/-! ### A core, as its cells say; as it is -/
structure Cx where
  A : Option Addr
  n : Nat
  cap : Nat
  ms : Nat
  mt : Nat
  st : Bool
  la : Ev
def Cx.enc (x : Cx) : List Value := [.slice x.A x.n x.cap, .map (some x.ms), .map (some x.mt), .bool x.st, .int .i64 x.la.kd, .int .i64 x.la.co, .int .i64 x.la.li, .int .i64 x.la.wo, .int .u64 x.la.va]
theorem Cx.len (x : Cx) : (Cx.enc x).length = 9 := rfl
theorem Cx.one (x : Cx) : ∀ v ∈ Cx.enc x, v.oneCell' = true := by
  intro v hv
  simp only [Cx.enc, List.mem_cons, List.not_mem_nil, or_false] at hv
  rcases hv with rfl | rfl | rfl | rfl | rfl | rfl | rfl | rfl | rfl <;> rfl
structure Bc where
  buf : List Be
  sm : List ((Int × Int) × (Int × Int))
  tm : List (Int × List Int)
  st : Bool
  la : Ev
def bcZ : Bc := ⟨[], [], [], false, evZ⟩
def newO (sm : List ((Int × Int) × (Int × Int))) (k : Int × Int) : Int × Int := (lookA k sm).getD (0, 0)
def Bc.putE (c : Bc) (x : Be) : Bc := { c with buf := c.buf ++ [x], sm := if x.fl then c.sm else putA (x.li, x.wo) ((newO c.sm (x.li, x.wo)).1 + 1, x.va) c.sm }
def takeSm (sm : List ((Int × Int) × (Int × Int))) (k : Int × Int) : List ((Int × Int) × (Int × Int)) :=
  if (newO sm k).1 - 1 = 0 then dropA k (putA k ((newO sm k).1 - 1, (newO sm k).2) sm) else putA k ((newO sm k).1 - 1, (newO sm k).2) sm
def Bc.takeE (c : Bc) (x : Be) : Option Bc :=
  match c.buf with
  | [] => none
  | y :: l => if y = x then some { c with buf := l, sm := if x.fl then c.sm else takeSm c.sm (x.li, x.wo) } else none
def Bc.settled (c : Bc) : Bool := c.buf.isEmpty && c.tm.isEmpty
def Bc.locks (c : Bc) (li wo : Int) : Bool := c.la.kd == 4 && (c.la.li == li && c.la.wo == wo)
def sentOf (c : Bc) (li : Int) : List Int := (lookA li c.tm).getD []
def Bc.sendE (c : Bc) (li p : Int) : Bc := { c with tm := putA li (sentOf c li ++ [p]) c.tm }
def Bc.ansE (c : Bc) (li : Int) : Bc := { c with tm := if (sentOf c li).length = 1 then dropA li (putA li (sentOf c li).tail c.tm) else putA li (sentOf c li).tail c.tm }

/-! ### A bus -/
structure Bs where
  vol : Nat
  ls : List Int
  ks : List Int
  ps : List Int
  cs : List Bc
def Bs.core (S : Bs) (i : Nat) : Bc := S.cs.getD i bcZ
def Bs.setC (S : Bs) (i : Nat) (c : Bc) : Bs := { S with cs := S.cs.set i c }
def Bs.word (S : Bs) (l o : Nat) : Int := S.ls.getD (l * 8 + o) 0
def Bs.setW (S : Bs) (l o : Nat) (v : Int) : Bs := { S with ls := S.ls.set (l * 8 + o) v }
def Bs.push (S : Bs) (l : Nat) : Bs := { S with ks := if S.vol ≤ l then lnPut S.ks l (ln S.ls l) else S.ks, ps := S.ps.set l (S.ps.getD l 0 + 1) }
def Bs.fail (S : Bs) : Bs := { S with ls := S.ks, cs := List.replicate S.cs.length bcZ }
def storeOf (e : Ev) : Be := ⟨false, e.li, e.wo, e.va⟩
def flushOf (e : Ev) : Be := ⟨true, e.li, 0, 0⟩
def isOfB (n m : Int) : Bool := decide (0 ≤ n) && decide (n < m)
def namesC (kd : Int) : Bool := kd != 5 && kd != 11
def namesL (kd : Int) : Bool := !(kd == 7 || kd == 8 || kd == 9 || kd == 10 || kd == 11)
def namesW (kd : Int) : Bool := kd == 12 || kd == 1 || kd == 2 || kd == 3 || kd == 4
def hasB (S : Bs) (e : Ev) : Bool := (!namesC e.kd || isOfB e.co S.cs.length) && (!namesL e.kd || isOfB e.li S.ps.length) && (!namesW e.kd || isOfB e.wo 8)
def kindB (kd : Int) : Bool := decide (1 ≤ kd) && decide (kd ≤ 14)
/-- What an event of its kind does; none: it is not allowed. -/
def actB (S : Bs) (e : Ev) : Option Bs :=
  let i := e.co.toNat
  let l := e.li.toNat
  let o := e.wo.toNat
  let c := S.core i
  if e.kd = 1 then (if !c.st && ((lookA (e.li, e.wo) c.sm).isNone && S.word l o == e.va) then some S else none)
  else if e.kd = 2 then (if !c.st && ((lookA (e.li, e.wo) c.sm).isSome && (newO c.sm (e.li, e.wo)).2 == e.va) then some S else none)
  else if e.kd = 3 then (match c.takeE (storeOf e) with
    | some c' => some ((S.setC i c').setW l o e.va)
    | none => if c.locks e.li e.wo then some (S.setW l o e.va) else none)
  else if e.kd = 4 then (if (!c.st && c.settled) && S.word l o == e.va then some S else none)
  else if e.kd = 5 then some (S.push l)
  else if e.kd = 6 then (if (sentOf c e.li).length = 0 ∨ (sentOf c e.li).headD 0 = S.ps.getD l 0 then none else some (S.setC i (c.ansE e.li)))
  else if e.kd = 7 then (if !c.st && c.settled then some S else none)
  else if e.kd = 8 then (if !c.st then some S else none)
  else if e.kd = 9 ∨ e.kd = 10 then (if !c.st then some (S.setC i { c with st := true }) else none)
  else if e.kd = 11 then some S.fail
  else if e.kd = 12 then (if !c.st then some (S.setC i (c.putE (storeOf e))) else none)
  else if e.kd = 13 then (match c.takeE (flushOf e) with
    | some c' => some (S.setC i (c'.sendE e.li (S.ps.getD l 0)))
    | none => none)
  else (if !c.st then some (S.setC i (c.putE (flushOf e))) else none)
def Bs.last (S : Bs) (e : Ev) : Bs := S.setC e.co.toNat { S.core e.co.toNat with la := e }
def lastB (S : Bs) (e : Ev) : Bs := if namesC e.kd then S.last e else S
def doB (S : Bs) (e : Ev) : Option Bs := if kindB e.kd && hasB S e then (actB S e).map (fun T => lastB T e) else none
/-- Numbers stay small. -/
structure Bc.Small (N : Nat) (c : Bc) : Prop where
  buf : c.buf.length ≤ N
  sm : ∀ p ∈ c.sm, -(N : Int) ≤ p.2.1 ∧ p.2.1 ≤ N
  tm : ∀ p ∈ c.tm, p.2.length ≤ N
structure Bs.Ok (n m : Nat) (N : Nat) (S : Bs) : Prop where
  n0 : 0 < n
  n64 : n ≤ 64
  m8 : m ≤ 8
  vol : S.vol ≤ n
  ls : S.ls.length = n * 8
  ks : S.ks.length = n * 8
  ps : S.ps.length = n
  cs : S.cs.length = m
  pb : ∀ p ∈ S.ps, 0 ≤ p ∧ p ≤ N
  cb : ∀ c ∈ S.cs, c.Small N
end Go.Proofs.Ytnocekhgabgffaa
