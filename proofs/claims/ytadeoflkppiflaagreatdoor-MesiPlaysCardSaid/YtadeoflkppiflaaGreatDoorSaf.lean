/- Texts of the walk, one behind the other: Agm Aga Agb Agc Agd Age Agf. No condition. -/
import Derived.Test.YtadeoflkppiflaaGreatDoorSaa
import Derived.Test.YtadeoflkppiflaaGreatDoorSab
import Derived.Test.YtadeoflkppiflaaGreatDoorSac
import Derived.Test.YtadeoflkppiflaaGreatDoorSae
import Derived.BigQuiet
import Derived.Deep.Cut
import Derived.Deep.CutBlock
import Derived.Deep.CutRange
import Derived.Deep.DeepCutAuto
import Derived.Deep.QuietTactic
import Derived.Deep.RegionHeld3
import Derived.Deep.RegionWith
namespace Go.Proofs.YtadeoflkppiflaaGreatDoor
open Go.RowKit
set_option linter.unusedVariables false
set_option maxHeartbeats 1000000
section
abbrev Sta:=List Slt×Int
def zl8:List Int:=[0,0,0,0,0,0,0,0]
def mayR (st:Int):Bool:=Xs st||st==6
def Qfk (st:Int):Bool:=st==2||st==3
def isLn (li:Int):Bool:=decide (0≤li)&&decide (li<64)
def isWd (k:Int):Bool:=decide (0≤k)&&decide (k<8)
def restB (x:Slt):Bool:=x.st==0||Xs x.st
def Jy (xs:List Slt):Bool:=xs.all restB
def JN (xs:List Slt) (li:Int):Bool:=Qfk (Qn xs li).st
def Yf (kd:Int) (x:Slt) (ke:Bool):Ms:=if x.st=3∨x.st=9 then ⟨kd,x.li,true,ke,x.l,x.h⟩ else ms4 kd x.li false ke
def tb (kd st:Int):Int:=
 if kd=8 then (if st=4 then 1 else 0)
 else if kd=9 then (if st=4 then 2 else 0)
 else if kd=10 then (if st=5∨st=6 then 2 else 0)
 else if kd=11 then (if st=7∨st=8∨st=9 then 10 else 0)
 else if kd=12 then (if st=1∨st=2∨st=3 then 10 else if st=6 then 5 else if st=7∨st=9 then 8 else 0)
 else if kd=13 then (if st=2∨st=3 then 1 else if st=7∨st=9 then 8 else 0)
 else if kd=14 then 11 else 0
def Yg (m:Ms) (x:Slt) (nx:Int):List Int:=if nx=5∨nx=8 then zl8 else if m.kd=13 then x.l else m.l
theorem Qcq (m:Ms) (x:Slt) (nx:Int):(Yg m x nx).length=8:=by
 unfold Yg
 split
 ·rfl
 ·split
  ·exact x.h
  ·exact m.h
def Z8 (kd:Int) (x:Slt) (nx:Int):List Ms:=if kd=12 then [Yf 6 x false] else if kd=13 then [Yf 7 x (nx==1)] else []
section
variable (S N:Nat)
def setS (s:Sta) (li st:Int) (l:List Int) (h:l.length=8):Sta:=(setXs S N s.1 s.2 li st l h,setU S N s.1 s.2 li st)
def Qb4 (s:Sta) (li:Int):Sta:=(touchXs s.1 s.2 li,J8 s.1 s.2 li)
def Qcm (s:Sta) (li:Int):Sta:=(dropXs s.1 li,s.2)
def Qc7 (st:Int):Int:=if st=3 then 9 else 7
def outF (s:Sta) (li:Int):Sta×List Ms:=
 if Xs (Qn s.1 li).st=true then (setS S N s li (Qc7 (Qn s.1 li).st) (Qn s.1 li).l (Qn s.1 li).h,[Yf 3 (Qn s.1 li) false]) else (s,[])
def getF (s:Sta) (li st kd:Int):Sta×List Ms:=
 if X5 S N s.1 li=true then (setS S N s li st zl8 rfl,[ms4 kd li false false]) else outF S N s (Y5 S N s.1 li)
def loadF (s:Sta) (li k:Int):Sta×(Int×Bool×List Ms):=
 if (isLn li&&isWd k)=true then
  (if mayR (Qn s.1 li).st=true then (Qb4 s li,((Qn s.1 li).l.getD k.toNat 0,true,[]))
   else if Jy s.1=true then ((getF S N s li 4 1).1,(0,false,(getF S N s li 4 1).2)) else (s,(0,false,[])))
 else (s,(0,false,[]))
def reachF (s:Sta) (li:Int):Sta×List Ms:=
 if (isLn li&&!JN s.1 li&&Jy s.1)=true then
  (if Xt s.1 li=true then (setS S N s li 6 (Qn s.1 li).l (Qn s.1 li).h,[ms4 2 li false false]) else getF S N s li 5 2)
 else (s,[])
def storeF (s:Sta) (li k v:Int):Sta×(Bool×List Ms):=
 if (isLn li&&isWd k)=true then
  (if JN s.1 li=true then (setS S N s li 3 ((Qn s.1 li).l.set k.toNat v) Cz32,(true,[]))
   else ((reachF S N s li).1,(false,(reachF S N s li).2)))
 else (s,(false,[]))
def evictF (s:Sta) (li:Int):Sta×(List Ms×Int):=
 if Jy s.1=true then ((outF S N s li).1,((outF S N s li).2,if (outF S N s li).2=[] then 14 else 0)) else (s,([],15))
def Qbz (s:Sta) (m:Ms) (nx:Int):Sta:=if nx=10 then Qcm s m.li else if nx=11 then s else setS S N s m.li nx (Yg m (Qn s.1 m.li) nx) (Qcq _ _ _)
def hearF (s:Sta) (m:Ms):Sta×(List Ms×Int):=
 if (mg m&&Z1 m.kd)=true then
  (if tb m.kd (Qn s.1 m.li).st=0 then (s,([],16))
   else (Qbz S N s m (tb m.kd (Qn s.1 m.li).st),(Z8 m.kd (Qn s.1 m.li) (tb m.kd (Qn s.1 m.li).st),0)))
 else (s,([],1))
end
def Ms.putDi (m:Ms) (b:Bool):Ms:=⟨m.kd,m.li,b,m.ke,m.l,m.h⟩
def Ms.putKe (m:Ms) (b:Bool):Ms:=⟨m.kd,m.li,m.di,b,m.l,m.h⟩
def Ms.putL (m:Ms) (l:List Int) (h:l.length=8):Ms:=⟨m.kd,m.li,m.di,m.ke,l,h⟩
def Slt.putL (x:Slt) (l:List Int) (h:l.length=8):Slt:=⟨x.st,x.li,l,x.us,h⟩
theorem JZ (a b:Int) (d e:Bool) (k:Int):(msc (ms4 a b d e)).setIfInBounds 0 (.int .i64 k)=msc (ms4 k b d e):=by simp [msc,Ms.enc,ms4]
theorem JY (a b:Int) (d e:Bool) (k:Int):(msc (ms4 a b d e)).setIfInBounds 1 (.int .i64 k)=msc (ms4 a k d e):=by simp [msc,Ms.enc,ms4]
theorem QE (m:Ms) (b:Bool):(msc m).setIfInBounds 2 (.bool b)=msc (m.putDi b):=by simp [msc,Ms.enc,Ms.putDi]
theorem QD (m:Ms) (b:Bool):(msc m).setIfInBounds 3 (.bool b)=msc (m.putKe b):=by simp [msc,Ms.enc,Ms.putKe]
theorem msc_put (m:Ms) (l:List Int) (h:l.length=8) (t:TypeId) (f:Nat×Nat):Yx (some (.cells (msc m) t f)) 4 (vs l)=some (.cells (msc (m.putL l h)) t f):=by
 rw [XI]
 have hm:=m.h
 simp [msc,Ms.enc,Ms.putL,vs,Z9,h,hm]
theorem QR (m:Ms) (x:Slt) (t:TypeId) (f:Nat×Nat):Yx (some (.cells (msc m) t f)) 4 (vs x.l)=some (.cells (msc (m.putL x.l x.h)) t f):=msc_put m x.l x.h t f
theorem slc_word (x:Slt) (k:Nat) (h:k<8):(slc x)[2+k]? =some (.int .u64 (x.l.getD k 0)):=by
 have h8:x.l.length=8:=x.h
 unfold slc Slt.enc
 rw [List.getElem?_toArray,show 2+k=k+1+1 by omega,List.getElem?_cons_succ,List.getElem?_cons_succ,List.getElem?_append_left (by simp [h8,h]),List.getElem?_map,List.getD_eq_getElem?_getD,List.getElem?_eq_getElem (by omega)]
 rfl
theorem slc_setWord (x:Slt) (k:Nat) (v:Int) (h:k<8):(slc x).setIfInBounds (2+k) (.int .u64 v)=slc (x.putL (x.l.set k v) (by rw [List.length_set];exact x.h)):=by
 have h8:x.l.length=8:=x.h
 unfold slc Slt.enc Slt.putL
 rw [List.setIfInBounds_toArray,show 2+k=k+1+1 by omega,List.set_cons_succ,List.set_cons_succ,List.set_append_left _ _ (by simp [h8,h]),List.map_set]
def Sane (xs:List Slt):Prop:=∀x∈xs,0≤x.st∧x.st≤9
theorem Sane.put {xs:List Slt} (h:Sane xs) (k:Nat) (y:Slt) (hy:0≤y.st∧y.st≤9):Sane (xs.set k y):=by
 intro x hx
 rcases List.mem_or_eq_of_mem_set hx with h1|rfl
 ·exact h x h1
 ·exact hy
theorem Sane.set {S N:Nat} {s:Sta} (h:Sane s.1) (li st:Int) (l:List Int) (hl:l.length=8):Sane (setS S N s li st l hl).1:=by
 show Sane (setXs S N s.1 s.2 li st l hl)
 unfold setXs
 split
 ·exact h
 ·rename_i hb
  exact h.put _ _ (by unfold XT at hb;show 0≤st∧st≤9;omega)
theorem Sane.touch {s:Sta} (h:Sane s.1) (li:Int):Sane (Qb4 s li).1:=by
 show Sane (touchXs s.1 s.2 li)
 unfold touchXs
 split
 ·rename_i x hx
  exact h.put _ _ (h x (List.mem_of_getElem? hx))
 ·exact h
theorem Sane.drop {s:Sta} (h:Sane s.1) (li:Int):Sane (Qcm s li).1:=h.put _ _ (by decide)
theorem Sane.new (n:Nat):Sane (List.replicate n sltZ):=by
 intro x hx
 rw [List.eq_of_mem_replicate hx]
 decide
theorem JL (xs:List Slt) (li:Int):(Qn xs li∈xs∧Xv li (Qn xs li)=true∧Xt xs li=true)∨(Qn xs li=sltZ∧Xt xs li=false∧∀x∈xs,Xv li x=false):=by
 unfold Qn Xt
 by_cases h:xs.findIdx (Xv li)<xs.length
 ·rw [List.getElem?_eq_getElem h]
  exact .inl ⟨List.getElem_mem h,List.findIdx_getElem,by simpa using h⟩
 ·rw [List.getElem?_eq_none (by omega)]
  refine .inr ⟨rfl,by simpa using h,fun x hx=>?_⟩
  have e:xs.findIdx (Xv li)=xs.length:=Nat.le_antisymm List.findIdx_le_length (by omega)
  simpa using List.findIdx_eq_length.1 e x hx
theorem Qam {xs:List Slt} (h:Sane xs) (li:Int):0≤(Qn xs li).st∧(Qn xs li).st≤9:=by
 rcases JL xs li with ⟨h1,_⟩|⟨h1,_⟩
 ·exact h _ h1
 ·rw [h1];decide
theorem Qeh {xs:List Slt} {li:Int} (h:(Qn xs li).st≠0):(Qn xs li).li=li∧Xt xs li=true:=by
 rcases JL xs li with ⟨_,h1,h2⟩|⟨h1,_⟩
 ·exact ⟨(Ja h1).2,h2⟩
 ·rw [h1] at h;exact absurd rfl h
theorem Qgz {xs:List Slt} {li:Int}:Xt xs li=((Qn xs li).st !=0):=by
 rcases JL xs li with ⟨_,h1,h2⟩|⟨h1,h2,_⟩
 ·rw [h2];have:=(Ja h1).1;simp [this]
 ·rw [h1,h2];rfl
theorem Qbe {xs:List Slt} (h:Jy xs=true) (li:Int):(Qn xs li).st=0∨Xs (Qn xs li).st=true:=by
 rcases JL xs li with ⟨h1,_⟩|⟨h1,_⟩
 ·have:=List.all_eq_true.1 h _ h1
  unfold restB at this
  rw [Bool.or_eq_true] at this
  simpa using this
 ·left;rw [h1];rfl
theorem Qcw (st:Int):Xs st=true↔1≤st∧st≤3:=by unfold Xs;simp
theorem rest_le {x:Slt} (h:0≤x.st):restB x=decide (x.st≤3):=by
 unfold restB Xs
 rw [Bool.eq_iff_iff]
 simp
 omega
theorem find_neg {S N:Nat} {xs:List Slt} (h:Good S N xs) {li:Int} (h0:li<0):Qn xs li=sltZ:=by
 rcases JL xs li with ⟨h1,h2,_⟩|⟨h1,_⟩
 ·obtain ⟨i,hi,e⟩:=List.getElem_of_mem h1
  have:=h.home i _ (List.getElem?_eq_some_iff.2 ⟨hi,e⟩) (Ja h2).1
  have:=(Ja h2).2
  omega
 ·exact h1
theorem eldS_mem (ys:List Slt) (a:Int×Int):(ys.foldl JE a).1=a.1∨∃x∈ys,Xs x.st=true∧x.li=(ys.foldl JE a).1:=by
 induction ys generalizing a with
 |nil=>exact .inl rfl
 |cons y ys ih=>
  rw [List.foldl_cons]
  rcases ih (JE a y) with h|⟨x,h1,h2,h3⟩
  ·rw [h]
   unfold JE
   split
   ·rename_i hc
    rw [Bool.and_eq_true] at hc
    exact .inr ⟨y,List.mem_cons_self ..,hc.1,rfl⟩
   ·exact .inl rfl
  ·exact .inr ⟨x,List.mem_cons_of_mem _ h1,h2,h3⟩
theorem eld_mem {ys:List Slt} (h:0≤eld ys):∃x∈ys,Xs x.st=true∧x.li=eld ys:=by
 rcases eldS_mem ys (-1,0) with h1|h1
 ·have:eld ys= -1:=h1
  omega
 ·exact h1
theorem seg_mem {N:Nat} {xs:List Slt} {t:Nat} {x:Slt} (h:x∈seg N xs t):x∈xs:=List.mem_of_mem_drop (List.mem_of_mem_take h)
theorem eld_rest {N:Nat} {xs:List Slt} {t:Nat} (hi:Jy xs=true) (h:0≤eld (seg N xs t)):Xs (Qn xs (eld (seg N xs t))).st=true:=by
 obtain ⟨x,h1,h2,h3⟩:=eld_mem h
 rcases Qbe hi (eld (seg N xs t)) with h4|h4
 ·rcases JL xs (eld (seg N xs t)) with ⟨_,h5,_⟩|⟨_,_,h5⟩
  ·exact absurd h4 (Ja h5).1
  ·have:=h5 x (seg_mem h1)
   unfold Xv at this
   rw [h3] at this
   have h6:=(Qcw x.st).1 h2
   simp at this
   omega
 ·exact h4
theorem outF_none {S N:Nat} {s:Sta} (h:Good S N s.1) {li:Int} (h0:li<0):outF S N s li=(s,[]):=by
 unfold outF
 rw [if_neg]
 rw [find_neg h h0]
 decide
theorem tb_le (kd st:Int):0≤tb kd st∧tb kd st≤11:=by
 unfold tb
 repeat' split
 all_goals omega
theorem tb_line {kd st:Int} (h:tb kd st≠0) (h14:kd≠14):st≠0:=by
 rintro rfl
 apply h
 unfold tb
 simp [h14]
theorem Qfa {S N:Nat} {s:Sta} {li st:Int} {l:List Int} {h:l.length=8}:s.2≤(setS S N s li st l h).2∧(setS S N s li st l h).2≤s.2+1:=setU_le
theorem Qfo {s:Sta} {li:Int}:s.2≤(Qb4 s li).2∧(Qb4 s li).2≤s.2+1:=touchU_le
theorem dropS_u {s:Sta} {li:Int}:s.2≤(Qcm s li).2∧(Qcm s li).2≤s.2+1:=by unfold Qcm;show s.2≤s.2∧_;omega
theorem outF_u {S N:Nat} {s:Sta} {li:Int}:s.2≤(outF S N s li).1.2∧(outF S N s li).1.2≤s.2+1:=by
 unfold outF;split
 ·exact Qfa
 ·show s.2≤s.2∧s.2≤s.2+1;omega
theorem getF_u {S N:Nat} {s:Sta} {li st kd:Int}:s.2≤(getF S N s li st kd).1.2∧(getF S N s li st kd).1.2≤s.2+1:=by
 unfold getF;split
 ·exact Qfa
 ·exact outF_u
theorem Qfb {s:Sta}:s.2≤s.2∧s.2≤s.2+1:=by omega
theorem loadF_u {S N:Nat} {s:Sta} {li k:Int}:s.2≤(loadF S N s li k).1.2∧(loadF S N s li k).1.2≤s.2+1:=by
 unfold loadF;split
 ·split
  ·exact Qfo
  ·split
   ·exact getF_u
   ·exact Qfb
 ·exact Qfb
theorem reachF_u {S N:Nat} {s:Sta} {li:Int}:s.2≤(reachF S N s li).1.2∧(reachF S N s li).1.2≤s.2+1:=by
 unfold reachF;split
 ·split
  ·exact Qfa
  ·exact getF_u
 ·exact Qfb
theorem storeF_u {S N:Nat} {s:Sta} {li k v:Int}:s.2≤(storeF S N s li k v).1.2∧(storeF S N s li k v).1.2≤s.2+1:=by
 unfold storeF;split
 ·split
  ·exact Qfa
  ·exact reachF_u
 ·exact Qfb
theorem evictF_u {S N:Nat} {s:Sta} {li:Int}:s.2≤(evictF S N s li).1.2∧(evictF S N s li).1.2≤s.2+1:=by
 unfold evictF;split
 ·exact outF_u
 ·exact Qfb
theorem hearF_u {S N:Nat} {s:Sta} {m:Ms}:s.2≤(hearF S N s m).1.2∧(hearF S N s m).1.2≤s.2+1:=by
 unfold hearF;split
 ·split
  ·exact Qfb
  ·show s.2≤(Qbz S N s m _).2∧(Qbz S N s m _).2≤s.2+1
   unfold Qbz
   split
   ·exact dropS_u
   ·split
    ·exact Qfb
    ·exact Qfa
 ·exact Qfb
end
section
attribute [local go_sem ↓] QA QQ QH Q8 QS QC Za QN Zs Zh Qm Ql heap_alloc Qo heap_setCell Qb ZF Z4 Z5 Z3 Zc ZB Zk ZI Zv ZM ZK ZN ZL
attribute [local go_sem] Qc Qa Qd Qj Qf Qe Qh Qi Qw ZE QZ Zq QO QG Q6 Q0 Q5 Zi Q9 QM QB QI Zj Q7 Qz QP Qt Qk Qs Qr Qq Qp Qg Zb Ze lit8 QF ZG Zr Zt ZC Zd Zy ZH Zz Qv ZA Zl Zm QE QD QR ZO JZ JY
attribute [local simp ↓] Qm Ql heap_alloc Qo heap_setCell Qb
attribute [local simp] Qc Qa Qd Qj Qf Qe Qh Qi Qw QB Qk Qs Qr Qq Qp Qg QF Qv QE QD QR QI JZ JY
theorem JF {P:Program} {fn:FuncId} {vs:Array Value} {K:Ending→World→Prop} {w W:World} {b1:Nat} {x1:Obj} (hc:Chg [] w W) (h1:W.heap[b1]? =some x1)
 (h:∀W',Chg [] w W'→W'.heap[b1]? =some x1→Calls P fn vs W' K):Calls P fn vs W K:=h W hc h1
theorem Qcn (w:World) (o:Obj) (c cs:Array Value) (t:TypeId) (h:cs.size=c.size):putRow ((w.alloc o).alloc (.cells c t)) (w.heap.size+1) 0 cs=(w.alloc o).alloc (.cells cs t):=by
 have:=Qk (w.alloc o) c cs t h
 exact Tz136
theorem Qfi (w:World) (o o':Obj) (c cs:Array Value) (t:TypeId) (h:cs.size=c.size):putRow (((w.alloc o).alloc o').alloc (.cells c t)) (w.heap.size+2) 0 cs=((w.alloc o).alloc o').alloc (.cells cs t):=by
 have:=Qcn (w.alloc o) o' c cs t h
 exact Tz136
theorem asize11 (n:Nat):n+1+1=n+2:=rfl
attribute [local go_sem] Qcn Qfi asize11
attribute [local simp] Qcn Qfi
theorem Qe2 (st:Int) (w:World):Calls Tryz.prog 139 #[.int .i64 st] w fun e w'=>e=.returned (.bool (Qfk st))∧w=w':=by
 cases t1:(st==2)
 all_goals
  go_enter Tryz.func139,Tryz.ntmps139
  try dsimp only [List.append]
  go_wp2_with fail
  go_ret
  exact ⟨by simp [Qfk,t1],rfl⟩
theorem rest_or (st:Int):Xs st=(st==1||Qfk st):=by
 unfold Xs Qfk
 rw [Bool.eq_iff_iff]
 simp
 omega
theorem grest_any (st:Int) (w:World):Calls Tryz.prog 196 #[.int .i64 st] w fun e w'=>e=.returned (.bool (Xs st))∧w=w':=by
 cases t1:(st==1)
 all_goals
  go_enter Tryz.func196,Tryz.ntmps196
  try dsimp only [List.append]
  go_wp2_with (go_at_call 139;refine (Qe2 _ _).mono ?_;rintro e w' ⟨rfl,rfl⟩)
  go_ret
  exact ⟨by simp [rest_or,Qfk,t1],rfl⟩
theorem Qee (st:Int) (b:Bool) (h:Xs st=b) (w:World):Calls Tryz.prog 196 #[.int .i64 st] w fun e w'=>e=.returned (.bool b)∧w=w':=h▸grest_any st w
theorem gwrite_at (st:Int) (b:Bool) (h:Qfk st=b) (w:World):Calls Tryz.prog 139 #[.int .i64 st] w fun e w'=>e=.returned (.bool b)∧w=w':=h▸Qe2 st w
theorem gread_any (st:Int) (w:World):Calls Tryz.prog 131 #[.int .i64 st] w fun e w'=>e=.returned (.bool (mayR st))∧w=w':=by
 cases t1:Xs st
 all_goals
  go_enter Tryz.func131,Tryz.ntmps131
  try dsimp only [List.append]
  go_wp2_with (go_at_call 196;refine (Qee _ _ t1 _).mono ?_;rintro e w' ⟨rfl,rfl⟩)
  go_ret
  exact ⟨by simp [mayR,t1],rfl⟩
theorem gline_any (li:Int) (w:World):Calls Tryz.prog 128 #[.int .i64 li] w fun e w'=>e=.returned (.bool (isLn li))∧w=w':=by
 cases t1:decide (0≤li)
 all_goals
  go_enter Tryz.func128,Tryz.ntmps128
  try dsimp only [List.append]
  go_wp2_with fail
  go_ret
  exact ⟨by simp [isLn,t1],rfl⟩
theorem gword_any (li:Int) (w:World):Calls Tryz.prog 129 #[.int .i64 li] w fun e w'=>e=.returned (.bool (isWd li))∧w=w':=by
 cases t1:decide (0≤li)
 all_goals
  go_enter Tryz.func129,Tryz.ntmps129
  try dsimp only [List.append]
  go_wp2_with fail
  go_ret
  exact ⟨by simp [isWd,t1],rfl⟩
theorem gread_at (st:Int) (b:Bool) (h:mayR st=b) (w:World):Calls Tryz.prog 131 #[.int .i64 st] w fun e w'=>e=.returned (.bool b)∧w=w':=h▸gread_any st w
theorem YJ (li:Int) (b:Bool) (h:isLn li=b) (w:World):Calls Tryz.prog 128 #[.int .i64 li] w fun e w'=>e=.returned (.bool b)∧w=w':=h▸gline_any li w
theorem J0 (li:Int) (b:Bool) (h:isWd li=b) (w:World):Calls Tryz.prog 129 #[.int .i64 li] w fun e w'=>e=.returned (.bool b)∧w=w':=h▸gword_any li w
theorem Qdf {fn:Func} {p:Tmp} (h:fn.results=#[.cell p 38]) (tmps:Array Value) (w:World) (b:Nat) (x:Ms) (fr:Nat×Nat)
 (hp:tmps.getD p undef=.pointer (some ⟨b,0,none⟩)) (hb:w.heap[b]? =some (.cells (msc x) 38 fr)):
 (results fn tmps).run Tryz.prog w=.ok (.agg (msc x)) w:=by
 have hp':tmps[p]?.getD undef=.pointer (some ⟨b,0,none⟩):=by simpa using hp
 have:=run_loadVar_row (P:=Tryz.prog) w b 38 38 (msc x) fr _ hb Tryz.underlying38 rfl (by rw [Qv];kernel_rfl)
 exact Tz93
theorem Qdg {fn:Func} {p:Tmp} (h:fn.results=#[.cell p 36]) (tmps:Array Value) (w:World) (b:Nat) (l:List Int) (hl:l.length=8) (fr:Nat×Nat)
 (hp:tmps.getD p undef=.pointer (some ⟨b,0,none⟩)) (hb:w.heap[b]? =some (.cells (vs l) 36 fr)):
 (results fn tmps).run Tryz.prog w=.ok (.agg (vs l)) w:=by
 exact Tz116
set_option maxRecDepth 20000 in
theorem Qgs (kd:Int) (x:Slt) (w:World):Calls Tryz.prog 199 #[.int .i64 kd,.agg (slc x)] w fun e w'=>e=.returned (.agg (msc (Yf kd x false)))∧Chg [] w w':=by
 have hx8:=x.h
 have q:(x.st==3)=true∨((x.st==3)=false∧(x.st==9)=true)∨((x.st==3)=false∧(x.st==9)=false):=by
  cases (x.st==3)<;>cases (x.st==9)<;>simp
 have yes:x.st=3∨x.st=9→Yf kd x false=((ms4 kd x.li false false).putDi true).putL x.l x.h:=by intro h;unfold Yf;rw [if_pos h];rfl
 have no:(x.st==3)=false→(x.st==9)=false→Yf kd x false=ms4 kd x.li false false:=by
  intro h1 h2
  unfold Yf
  rw [if_neg (by simp at h1 h2;omega)]
 rcases q with q1|⟨q1,q2⟩|⟨q1,q2⟩
 ·rw [yes (.inl (by simpa using q1))]
  exact Tz92
 ·rw [yes (.inr (by simpa using q2))]
  exact Tz92
 ·rw [no q1 q2]
  clear yes no
  go_enter Tryz.func199,Tryz.ntmps199
  try dsimp only [List.append]
  go_wp2_with fail
  all_goals
   go_wp2_with fail
   refine bodyPost_ret (Qdf (by rfl) _ _ (w.heap.size+1) _ (0,0) (by rfl) (by simp;try rfl)) (by rfl) ?_
   exact Tz0
def Told (w w':World) (A:Option Addr) (ms:List Ms):Prop:=Sl w' 12 A ms.length (cat Ms.enc ms)∧∀x,A=some x→w.heap.size≤x.block
theorem Told.nil (w w':World):Told w w' none []:=⟨⟨rfl,.inl rfl⟩,by simp⟩
theorem Told.keep {w w' w'':World} {A:Option Addr} {ms:List Ms} {l:List Nat} (h:Told w w' A ms) (hc:Chg l w' w'') (hl:∀x∈l,x<w.heap.size):Told w w'' A ms:=
 ⟨h.1.chg hc (by intro a ha hm;have:=h.2 a ha;have:=hl _ hm;omega),h.2⟩
theorem Told.from {w0 w w':World} {A:Option Addr} {ms:List Ms} (h:Told w w' A ms) (hs:w0.heap.size≤w.heap.size):Told w0 w' A ms:=⟨h.1,fun x hx=>Nat.le_trans hs (h.2 x hx)⟩
theorem Told.one (w:World) (m:Ms):Told w (w.alloc (.cells (msc m) 38)) (some ⟨w.heap.size,0,none⟩) [m]:=
 ⟨⟨by rw [Zo Ms.len],.inr ⟨w.heap.size,0,msc m,38,(0,0),rfl,by simp,by rw [JV];simp [msc,Ms.len,List.take_of_length_le]⟩⟩,by rintro x hx;cases hx;exact Nat.le_refl _⟩
def MsTo (w:World) (ms:List Ms):Ending→World→Prop:=fun e w'=>∃A n,e=.returned (.slice A ms.length n)∧Told w w' A ms∧Chg [] w w'
theorem MsTo.nil {w w':World} (h:Chg [] w w'):MsTo w [] (.returned (.slice none 0 0)) w':=⟨none,0,rfl,Told.nil _ _,h⟩
theorem MsTo.one {w w1:World} (h:Chg [] w w1) (m:Ms):MsTo w [m] (.returned (.slice (some ⟨w1.heap.size,0,none⟩) 1 1)) (w1.alloc (.cells (msc m) 38)):=
 ⟨_,1,rfl,(Told.one w1 m).from h.size,h.alloc _⟩
theorem MsTo.at {w w1:World} {n:Nat} (h:Chg [] w w1) (m:Ms) (hn:n=w1.heap.size):MsTo w [m] (.returned (.slice (some ⟨n,0,none⟩) 1 1)) (w1.alloc (.cells (msc m) 38)):=hn▸MsTo.one h m
theorem gwords_any (m:Ms) (x:Slt) (nx:Int) (w:World):Calls Tryz.prog 151 #[.agg (msc m),.agg (slc x),.int .i64 nx] w fun e w'=>e=.returned (.agg (vs (Yg m x nx)))∧Chg [] w w':=by
 have hx8:=x.h
 have hm8:=m.h
 have q:((nx==5)=true∨((nx==5)=false∧(nx==8)=true))∨((nx==5)=false∧(nx==8)=false):=by
  cases (nx==5)<;>cases (nx==8)<;>simp
 rcases q with q|⟨q1,q2⟩
 ·have e1:Yg m x nx=zl8:=by
   unfold Yg
   rw [if_pos (by rcases q with h|⟨_,h⟩;exact .inl (by simpa using h);exact .inr (by simpa using h))]
  rw [e1]
  clear e1
  rcases q with q1|⟨q1,q2⟩
  all_goals
   go_enter Tryz.func151,Tryz.ntmps151
   try dsimp only [List.append]
   go_wp2_with fail
   refine bodyPost_ret (Qdg (by rfl) _ _ (w.heap.size+2) (zl8) rfl (0,0) (by rfl) (by simp (maxDischargeDepth:=8) [zl8];try rfl)) (by rfl) ?_
   exact Tz0
 ·have hn:¬(nx=5∨nx=8):=by simp at q1 q2;omega
  cases q3:(m.kd==13)
  ·rw [show Yg m x nx=m.l by unfold Yg;rw [if_neg hn,if_neg (by simpa using q3)]]
   clear hn
   go_enter Tryz.func151,Tryz.ntmps151
   try dsimp only [List.append]
   go_wp2_with fail
   refine bodyPost_ret (Qdg (by rfl) _ _ (w.heap.size+2) (m.l) m.h (0,0) (by rfl) (by simp (maxDischargeDepth:=8);try rfl)) (by rfl) ?_
   exact Tz0
  ·rw [show Yg m x nx=x.l by unfold Yg;rw [if_neg hn,if_pos (by simpa using q3)]]
   clear hn
   go_enter Tryz.func151,Tryz.ntmps151
   try dsimp only [List.append]
   go_wp2_with fail
   refine bodyPost_ret (Qdg (by rfl) _ _ (w.heap.size+2) (x.l) x.h (0,0) (by rfl) (by simp (maxDischargeDepth:=8);try rfl)) (by rfl) ?_
   exact Tz0
theorem told_ke (kd:Int) (x:Slt) (b:Bool):(Yf kd x false).putKe b=Yf kd x b:=by
 unfold Yf
 split<;>rfl
theorem Qci (kd:Int) (x:Slt) (nx:Int) (w:World):Calls Tryz.prog 152 #[.int .i64 kd,.agg (slc x),.int .i64 nx] w (MsTo w (Z8 kd x nx)):=by
 have hx8:=x.h
 have rX:(w.alloc (.cells (slc x) 54 (0,0))).heap[w.heap.size]? =some (.cells (slc x) 54 (0,0)):=by simp
 cases q1:(kd==12)
 ·cases q2:(kd==13)
  ·rw [show Z8 kd x nx=[] by unfold Z8;rw [if_neg (by simpa using q1),if_neg (by simpa using q2)]]
   go_enter Tryz.func152,Tryz.ntmps152
   try dsimp only [List.append]
   go_wp2_with fail
   go_ret
   exact MsTo.nil Cz0
  ·rw [show Z8 kd x nx=[(Yf 7 x false).putKe (nx==1)] by unfold Z8;rw [if_neg (by simpa using q1),if_pos (by simpa using q2),told_ke]]
   go_enter Tryz.func152,Tryz.ntmps152
   try dsimp only [List.append]
   go_wp2_with fail
   refine (Qgs 7 x _).mono ?_
   rintro e w2 ⟨rfl,c2⟩
   have C2:Chg [] w w2:=((Chg.refl [] w).alloc _).trans c2
   go_wp2_with fail
   go_ret
   exact MsTo.at (C2.alloc (.cells (msc ((Yf 7 x false).putKe (nx==1))) 38)) _ (by simp)
 ·rw [show Z8 kd x nx=[Yf 6 x false] by unfold Z8;rw [if_pos (by simpa using q1)]]
  go_enter Tryz.func152,Tryz.ntmps152
  try dsimp only [List.append]
  go_wp2_with fail
  refine (Qgs 6 x _).mono ?_
  rintro e w2 ⟨rfl,c2⟩
  have C2:Chg [] w w2:=((Chg.refl [] w).alloc _).trans c2
  go_wp2_with fail
  go_ret
  exact MsTo.one C2 _
end
section
attribute [local go_sem ↓] QA QQ QH Q8 QS QC Za QN Zs Zh Qm Ql heap_alloc Qo heap_setCell Qb ZF Z4 Z5 Z3 Zc ZB Zk ZI Zv ZM ZK ZN ZL
attribute [local go_sem] Qc Qa Qd Qj Qf Qe Qh Qi Qw ZE QZ Zq QO QG Q6 Q0 Q5 Zi Q9 QM QB QI Zj Q7 Qz QP Qt Qk Qs Qr Qq Qp Qg Zb Ze lit8 QF ZG Zr Zt ZC Zd Zy ZH Zz Qv ZA Zl Zm QE QD QR ZO JZ JY
attribute [local simp ↓] Qm Ql heap_alloc Qo heap_setCell Qb
attribute [local simp] Qc Qa Qd Qj Qf Qe Qh Qi Qw QB Qk Qs Qr Qq Qp Qg QF Qv QE QD QR QI JZ JY
def Agt (W w:World) (g a b S N:Nat) (s:Sta):Prop:=
 ASys W w a b S N s.1 s.2∧w.heap[g]? =some (.cells #[.pointer (some ⟨a,0,none⟩)] 206 (0,0))∧W.heap.size≤g∧g∉[a,b]∧Sane s.1∧0≤s.2
section
variable {W w w':World} {g a b S N:Nat} {s s':Sta} (h:Agt W w g a b S N s)
include h
theorem Agt.keep (hc:Chg [] w w'):Agt W w' g a b S N s:=⟨h.1.keep hc,hc.keep h.2.1 (by simp),h.2.2⟩
theorem Agt.arr:Arr w a b S N s.1 s.2:=h.1.2.1
theorem Agt.good:Good S N s.1:=h.1.good
theorem Agt.sane:Sane s.1:=h.2.2.2.2.1
theorem Agt.pos:0≤s.2:=h.2.2.2.2.2
theorem Agt.new3 {k:Nat} (hk:w.heap.size≤k):k∉[g,a,b]:=by
 have h1:=h.1.new2 hk
 have h2:=ZS h.2.1
 simp at h1 ⊢
 omega
theorem Agt.new2 {k:Nat} (hk:w.heap.size≤k):k∉[a,b]:=h.1.new2 hk
theorem Agt.apart {k:Nat} (hc:Chg [k] w w') (hk:k∉[g,a,b]) (hw:W.heap.size≤k):Agt W w' g a b S N s:=by
 have h1:g∉[k]∧a∉[k]∧b∉[k]:=by simp at hk ⊢;omega
 exact ⟨⟨h.1.1.trans' hc (by simp [hw]),h.1.2.1.keep hc h1.2.1 h1.2.2,h.1.2.2⟩,hc.keep h.2.1 h1.1,h.2.2⟩
theorem Agt.old2:∀x∈[a,b],x<w.heap.size:=by
 have h1:=ZS h.arr.1
 have h2:=ZS h.arr.2.1
 intro x hx
 simp at hx
 rcases hx with rfl|rfl<;>assumption
theorem Agt.step (hs:ASys W w' a b S N s'.1 s'.2) (hc:Chg [a,b] w w') (h1:Sane s'.1) (h2:0≤s'.2):Agt W w' g a b S N s':=
 ⟨hs,hc.keep h.2.1 h.2.2.2.1,h.2.2.1,h.2.2.2.1,h1,h2⟩
end
def AgRet (W w:World) (g a b S N:Nat) (s:Sta) (f:Value→Value) (ms:List Ms):Ending→World→Prop:=fun e w'=>
 ∃A n,e=.returned (f (.slice A ms.length n))∧Told w w' A ms∧Agt W w' g a b S N s∧Chg [a,b] w w'
theorem Agt.calls {W w:World} {g a b S N:Nat} {s s':Sta} (h:Agt W w g a b S N s) {v:Value} {f:FuncId} {args:Array Value} (h1:Sane s'.1) (h2:0≤s'.2)
 (hc:Calls Tryz.prog f args w (ASysTo W w a b S N s'.1 s'.2 v)):Calls Tryz.prog f args w fun e w'=>e=.returned v∧Agt W w' g a b S N s'∧Chg [a,b] w w':=
 hc.mono fun e w' ⟨he,hs,hc⟩=>⟨he,h.step hs hc h1 h2,hc⟩
section
variable {W w:World} {g a b S N:Nat} {s:Sta} (h:Agt W w g a b S N s)
include h
theorem Qed (hu:s.2≤1000000000) (li st:Int) (l:List Int) (hl:l.length=8):Calls Tryz.prog 140 #[.pointer (some ⟨a,0,none⟩),.int .i64 li,.int .i64 st,.agg (vs l)] w
 fun e w'=>e=.returned (.int .i64 (Qds S N s.1 li st))∧Agt W w' g a b S N (setS S N s li st l hl)∧Chg [a,b] w w':=
 h.calls (h.sane.set li st l hl) (Int.le_trans h.pos Qfa.1) (sys_set h.1 h.pos hu li st l hl)
theorem gsetz_any (hu:s.2≤1000000000) (li st:Int):Calls Tryz.prog 140 #[.pointer (some ⟨a,0,none⟩),.int .i64 li,.int .i64 st,.agg #[.int .u64 0,.int .u64 0,.int .u64 0,.int .u64 0,.int .u64 0,.int .u64 0,.int .u64 0,.int .u64 0]] w
 fun e w'=>e=.returned (.int .i64 (Qds S N s.1 li st))∧Agt W w' g a b S N (setS S N s li st zl8 rfl)∧Chg [a,b] w w':=Qed h hu li st zl8 rfl
theorem gtouch_any (hu:s.2≤1000000000) (li:Int):Calls Tryz.prog 132 #[.pointer (some ⟨a,0,none⟩),.int .i64 li] w
 fun e w'=>e=.returned (.tuple #[])∧Agt W w' g a b S N (Qb4 s li)∧Chg [a,b] w w':=
 h.calls (h.sane.touch li) (Int.le_trans h.pos Qfo.1) (sys_touch h.1 h.pos hu li)
theorem gdrop_any (li:Int):Calls Tryz.prog 150 #[.pointer (some ⟨a,0,none⟩),.int .i64 li] w
 fun e w'=>e=.returned (.bool (Xt s.1 li))∧Agt W w' g a b S N (Qcm s li)∧Chg [a,b] w w':=
 h.calls (h.sane.drop li) (Int.le_trans h.pos dropS_u.1) (sys_drop h.1 li)
theorem YR (li:Int):Calls Tryz.prog 130 #[.pointer (some ⟨a,0,none⟩),.int .i64 li] w
 fun e w'=>e=.returned (.tuple #[.agg (slc (Qn s.1 li)),.bool (Xt s.1 li)])∧Chg [] w w':=afind_any a b S N s.1 s.2 li w h.arr
theorem groom_any (li:Int):Calls Tryz.prog 198 #[.pointer (some ⟨a,0,none⟩),.int .i64 li] w
 fun e w'=>e=.returned (.tuple #[.bool (X5 S N s.1 li),.int .i64 (Y5 S N s.1 li)])∧Chg [] w w':=aroom_any a b S N s.1 s.2 li w h.arr
end
theorem gslots_any {W:World} {g a b S N:Nat} {s:Sta} (w:World) (h:Agt W w g a b S N s):Calls Tryz.prog 75 #[.pointer (some ⟨g,0,none⟩)] w (Qco w (live s.1)):=by
 have H:=Vh h
 have rG:=h.2.1
 clear h
 go_enter Tryz.func75,Tryz.ntmps75
 try dsimp only [List.append]
 go_wp2_with fail
 refine (aslots_ok a b S N s.1 s.2 w H.out.arr).mono ?_
 rintro e w2 ⟨A,c,rfl,hs,c2⟩
 have HS:=Vh hs
 have HC:=Vh c2
 clear hs c2
 go_wp2_with fail
 go_ret
 exact ⟨A,c,rfl,HS.out,HC.out⟩
theorem gowns_any {W:World} {g a b S N:Nat} {s:Sta} (li:Int) (w:World) (h:Agt W w g a b S N s):Calls Tryz.prog 103 #[.pointer (some ⟨g,0,none⟩),.int .i64 li] w fun e w'=>e=.returned (.bool (JN s.1 li))∧Chg [] w w':=by
 have H:=Vh h
 have rG:=h.2.1
 clear h
 go_enter Tryz.func103,Tryz.ntmps103
 try dsimp only [List.append]
 go_wp2_with fail
 refine (YR H.out li).mono ?_
 rintro e w2 ⟨rfl,c2⟩
 go_wp2_with (go_at_call 139;refine (Qe2 _ _).mono ?_;rintro e w' ⟨rfl,rfl⟩)
 go_ret
 exact Tz61
theorem slt_whole {w wr:World} {l:List Nat} {n b o k:Nat} {ys:List Slt} {y:Slt} (h:Sl w 11 (some ⟨b,o,none⟩) n (cat Slt.enc ys)) (hc:Chg l w wr) (hb:b∉l) (hk:k<n) (hy:ys[k]? =some y):
 ∃c t f,wr.heap[b]? =some (.cells c t f)∧JM (some (.cells c t f)) (o+k*11) 11=true∧Xq (some (.cells c t f)) (o+k*11) 11=slc y:=by
 obtain ⟨cs,t,f,hb,_,hpa⟩:=(h.chg hc (by simpa using hb)).elem (by omega) hk (Je Slt.len hy)
 obtain ⟨r1,r2⟩:=hpa 0 11 (by omega)
 rw [Nat.add_zero] at r1 r2
 refine ⟨cs,t,f,hb,r1,?_⟩
 rw [r2]
 simp [slc,Slt.len,List.take_of_length_le]
theorem idle_live (xs:List Slt):Jy xs=(live xs).all (fun x=>Xs x.st):=by
 unfold Jy live
 rw [List.all_filter]
 congr 1
 funext x
 unfold restB
 cases h:(x.st==0)<;>simp [bne,h]
theorem gidle_any {W:World} {g a b S N:Nat} {s:Sta} (w:World) (h:Agt W w g a b S N s):Calls Tryz.prog 133 #[.pointer (some ⟨g,0,none⟩)] w fun e w'=>e=.returned (.bool (Jy s.1))∧Chg [] w w':=by
 have H:=Vh h
 have rG:=h.2.1
 clear h
 have hsl:=gslots_any w H.out
 rw [idle_live]
 obtain ⟨ys,hys⟩:∃ys,ys=live s.1:=⟨_,rfl⟩
 rw [←hys] at hsl ⊢
 go_enter Tryz.func133,Tryz.ntmps133
 try dsimp only [List.append]
 go_wp2_with fail
 refine hsl.mono ?_
 rintro e w2 ⟨A,cp,rfl,hs,c2⟩
 have hl:ys.length≤64:=by rw [hys];exact Nat.le_trans (live_le _) H.out.good.len64
 have HS:=Vh hs
 have HC:=Vh c2
 obtain ⟨n,hn⟩:∃n,n=ys.length:=⟨_,rfl⟩
 rw [←hn] at HS hl ⊢
 have HN:=Vh hn
 clear hs c2 hys rG hn hsl
 go_wp2_with fail
 go_loopw [8] (fun i wr=>∃k:Nat,k≤n∧i=.int .i64 k∧Chg [] w2 wr∧∀x∈ys.take k,Xs x.st=true) (fun i _=>n-(intOf i).toNat)
 case atStart=>exact ⟨0,by omega,rfl,Chg.refl _ _,by simp⟩
 case round=>
  obtain ⟨k,hk,rfl,hc,hall⟩:=hrel
  by_cases hlt:k<n
  ·obtain ⟨b1,o1,rfl⟩:=HS.out.addr (by omega)
   obtain ⟨y,hy⟩:∃y,ys[k]? =some y:=⟨ys[k]'Cz17,List.getElem?_eq_getElem _⟩
   obtain ⟨cs,tt,f,hb,i1,i2⟩:=slt_whole HS.out hc (by simp) hlt hy
   have g1:(k:Int)<(n:Int):=by omega
   have g0:(0:Int)≤(k:Int):=by omega
   have g2:(n:Int)≤64:=by omega
   have HA:=Vh hall
   have HK:=Vh hc
   have ht:=List.take_succ_eq_append_getElem (by rw [←HN.out];exact hlt:k<ys.length)
   rw [show ys[k]'Cz17=y from (Vg hy).2] at ht
   have HT:=Vh ht
   have HY:=Vh hy
   clear hall hc ht hy
   cases hr:Xs y.st
   ·go_wp2_with (go_at_call 196;refine (Qee _ _ hr _).mono ?_;rintro e w' ⟨rfl,rfl⟩)
    go_ret
    refine ⟨?_,(HC.out.trans HK.out).alloc _⟩
    have:ys.all (fun x=>Xs x.st)=false:=by
     rw [List.all_eq_false]
     exact ⟨y,List.mem_of_getElem? HY.out,by simp [hr]⟩
    rw [this]
    rfl
   ·go_wp2_with (go_at_call 196;refine (Qee _ _ hr _).mono ?_;rintro e w' ⟨rfl,rfl⟩)
    go_roundw
    case rel=>
     refine ⟨k+1,by omega,by go_num,HK.out.alloc _,?_⟩
     rw [HT.out]
     intro x hx
     rcases List.mem_append.1 hx with h1|h1
     ·exact HA.out x h1
     ·rw [Vs h1];exact hr
    case measure=>simp [intOf];omega
  ·obtain rfl:k=n:=by omega
   have HA:=Vh hall
   have HK:=Vh hc
   clear hall hc
   go_wp2_with fail
   go_ret
   refine ⟨?_,HC.out.trans HK.out⟩
   have:ys.all (fun x=>Xs x.st)=true:=by
    rw [List.all_eq_true]
    intro x hx
    exact HA.out x (by rw [HN.out,List.take_length];exact hx)
   rw [this]
   rfl
theorem Qaw {W:World} {g a b S N:Nat} {s:Sta} (v:Bool) (hv:Jy s.1=v) (w:World) (h:Agt W w g a b S N s):Calls Tryz.prog 133 #[.pointer (some ⟨g,0,none⟩)] w fun e w'=>e=.returned (.bool v)∧Chg [] w w':=hv▸gidle_any w h
theorem Qcx {W:World} {g a b S N:Nat} {s:Sta} (li:Int) (v:Bool) (hv:JN s.1 li=v) (w:World) (h:Agt W w g a b S N s):Calls Tryz.prog 103 #[.pointer (some ⟨g,0,none⟩),.int .i64 li] w fun e w'=>e=.returned (.bool v)∧Chg [] w w':=hv▸gowns_any li w h
end
section
attribute [local go_sem ↓] QA QQ QH Q8 QS QC Za QN Zs Zh Qm Ql heap_alloc Qo heap_setCell Qb ZF Z4 Z5 Z3 Zc ZB Zk ZI Zv ZM ZK ZN ZL
attribute [local go_sem] Qc Qa Qd Qj Qf Qe Qh Qi Qw ZE QZ Zq QO QG Q6 Q0 Q5 Zi Q9 QM QB QI Zj Q7 Qz QP Qt Qk Qs Qr Qq Qp Qg Zb Ze lit8 QF ZG Zr Zt ZC Zd Zy ZH Zz Qv ZA Zl Zm QE QD QR ZO JZ JY
attribute [local simp ↓] Qm Ql heap_alloc Qo heap_setCell Qb
attribute [local simp] Qc Qa Qd Qj Qf Qe Qh Qi Qw QB Qk Qs Qr Qq Qp Qg QF Qv QE QD QR QI JZ JY
section
variable {W w w1:World} {g a b S N:Nat} {s:Sta} {f:Value→Value}
theorem AgRet.one (h:Agt W w1 g a b S N s) (hc:Chg [a,b] w w1) (m:Ms):AgRet W w g a b S N s f [m] (.returned (f (.slice (some ⟨w1.heap.size,0,none⟩) 1 1))) (w1.alloc (.cells (msc m) 38)):=
 ⟨_,1,rfl,(Told.one w1 m).from hc.size,h.keep ((Chg.refl [] w1).alloc _),hc.alloc _⟩
theorem AgRet.nil (h:Agt W w1 g a b S N s) (hc:Chg [a,b] w w1):AgRet W w g a b S N s f [] (.returned (f (.slice none 0 0))) w1:=
 ⟨none,0,rfl,Told.nil _ _,h,hc⟩
theorem Zp (h:Chg [] w w1):Chg [a,b] w w1:=h.mono (by simp)
end
theorem Qgh {S N:Nat} {s:Sta} {li:Int} (h:Xs (Qn s.1 li).st=true):outF S N s li=(setS S N s li (Qc7 (Qn s.1 li).st) (Qn s.1 li).l (Qn s.1 li).h,[Yf 3 (Qn s.1 li) false]):=by unfold outF;rw [if_pos h]
theorem out_no {S N:Nat} {s:Sta} {li:Int} (h:Xs (Qn s.1 li).st=false):outF S N s li=(s,[]):=by unfold outF;rw [if_neg (by simp [h])]
theorem gout_any {W:World} {g a b S N:Nat} {s:Sta} (li:Int) (w:World) (h:Agt W w g a b S N s) (hu:s.2≤1000000000):Calls Tryz.prog 138 #[.pointer (some ⟨g,0,none⟩),.int .i64 li] w (AgRet W w g a b S N (outF S N s li).1 (fun v=>v) (outF S N s li).2):=by
 have H:=Vh h
 have rG:=h.2.1
 have CW:=Vh (Chg.refl [a,b] w)
 clear h
 have hf:=YR H.out li
 cases hr:Xs (Qn s.1 li).st
 ·rw [out_no hr]
  generalize Qn s.1 li=x at hf hr
  go_enter Tryz.func138,Tryz.ntmps138
  try dsimp only [List.append]
  go_wp2_with fail
  refine hf.mono ?_
  clear hf
  rintro e w2 ⟨rfl,c2⟩
  go_wp2_with (go_at_call 196;refine (Qee _ _ hr _).mono ?_;rintro e w' ⟨rfl,rfl⟩)
  go_ret
  exact AgRet.nil (f:=fun v=>v) (H.out.keep (c2.alloc _)) (Zp (c2.alloc _))
 ·rw [Qgh hr]
  generalize Qn s.1 li=x at hf hr
  have hx8:=x.h
  have q:((x.st==3)=true∧Qc7 x.st=9)∨((x.st==3)=false∧Qc7 x.st=7):=by
   unfold Qc7
   cases h3:(x.st==3)
   ·exact .inr ⟨rfl,by rw [if_neg (by simpa using h3)]⟩
   ·exact .inl ⟨rfl,by rw [if_pos (by simpa using h3)]⟩
  rcases q with ⟨q1,q2⟩|⟨q1,q2⟩
  all_goals
   rw [q2]
   clear q2
   go_enter Tryz.func138,Tryz.ntmps138
   try dsimp only [List.append]
   go_wp2_with fail
   refine hf.mono ?_
   clear hf
   rintro e w2 ⟨rfl,c2⟩
   replace H:=Vh (H.out.keep c2)
   replace CW:=Vh (CW.out.trans (Zp c2))
   clear c2
   have rG:=H.out.2.1
   go_wp2_with fail
   have cb:=(Chg.refl [] w2).alloc (.cells (slc x) 54 (0,0))
   have rX:(w2.alloc (.cells (slc x) 54 (0,0))).heap[w2.heap.size]? =some (.cells (slc x) 54 (0,0)):=by simp
   have nX:=H.out.new2 (k:=w2.heap.size) (Nat.le_refl _)
   have mX:=H.out.new3 (k:=w2.heap.size) (Nat.le_refl _)
   have vX:=H.out.1.1.size
   have uXx:=CW.out.size
   replace H:=Vh (H.out.keep cb)
   replace CW:=Vh (CW.out.trans (Zp cb))
   clear cb
   generalize w2.heap.size=pX at rX nX mX vX uXx ⊢
   generalize w2.alloc (.cells (slc x) 54 (0,0))=w3 at rX H CW ⊢
   have rG:=H.out.2.1
   have oX:=old rX
   refine (Qee _ _ hr _).mono ?_
   rintro e w' ⟨rfl,rfl⟩
   go_wp2_with fail
   have nG:=H.out.2.2.2.1
   go_region_held3 (fun w'=>w'.heap[g]? =some (.cells #[.pointer (some ⟨a,0,none⟩)] 206 (0,0))∧w'.heap[pX]? =some (.cells (slc x) 54 (0,0))) (first |exact ⟨rG,rX⟩|exact ⟨c4.keep rG nG,c4.keep rX nX⟩)
    (first
     |(go_at_call 140;refine (Qed (H.out.keep (Chg.drew (Chg.refl [] w3))) hu li _ x.l x.h).mono ?_;rintro e w4 ⟨rfl,h4,c4⟩))
   all_goals
    replace H:=Vh h4
    replace CW:=Vh (CW.out.trans (Chg.trans (Chg.drew (Chg.refl [a,b] w3)) c4))
    replace rX:=c4.keep rX nX
    clear h4 c4 rG
    have rG:=H.out.2.1
    go_wp2_with fail
    refine (Qgs 3 x _).mono ?_
    rintro e w5 ⟨rfl,c5⟩
    go_wp2_with fail
    go_ret
    exact AgRet.one (f:=fun v=>v) (H.out.keep c5) (CW.out.trans (Zp c5)) _
end
section
attribute [local go_sem ↓] QA QQ QH Q8 QS QC Za QN Zs Zh Qm Ql heap_alloc Qo heap_setCell Qb ZF Z4 Z5 Z3 Zc ZB Zk ZI Zv ZM ZK ZN ZL
attribute [local go_sem] Qc Qa Qd Qj Qf Qe Qh Qi Qw ZE QZ Zq QO QG Q6 Q0 Q5 Zi Q9 QM QB QI Zj Q7 Qz QP Qt Qk Qs Qr Qq Qp Qg Zb Ze lit8 QF ZG Zr Zt ZC Zd Zy ZH Zz Qv ZA Zl Zm QE QD QR ZO JZ JY
attribute [local simp ↓] Qm Ql heap_alloc Qo heap_setCell Qb
attribute [local simp] Qc Qa Qd Qj Qf Qe Qh Qi Qw QB Qk Qs Qr Qq Qp Qg QF Qv QE QD QR QI JZ JY
theorem gget_any {W:World} {g a b S N:Nat} {s:Sta} (li st kd:Int) (w:World) (h:Agt W w g a b S N s) (hu:s.2≤1000000000):Calls Tryz.prog 134 #[.pointer (some ⟨g,0,none⟩),.int .i64 li,.int .i64 st,.int .i64 kd] w (AgRet W w g a b S N (getF S N s li st kd).1 (fun v=>v) (getF S N s li st kd).2):=by
 have H:=Vh h
 have rG:=h.2.1
 have CW:=Vh (Chg.refl [a,b] w)
 clear h
 have hf:=groom_any H.out li
 cases hr:X5 S N s.1 li
 ·rw [show getF S N s li st kd=outF S N s (Y5 S N s.1 li) by unfold getF;rw [if_neg (by simp [hr])]]
  rw [hr] at hf
  generalize Y5 S N s.1 li=v at hf
  go_enter Tryz.func134,Tryz.ntmps134
  try dsimp only [List.append]
  go_wp2_with fail
  refine hf.mono ?_
  clear hf
  rintro e w2 ⟨rfl,c2⟩
  replace H:=Vh (H.out.keep c2)
  replace CW:=Vh (CW.out.trans (Zp c2))
  clear c2
  have rG:=H.out.2.1
  go_wp2_with fail
  refine (gout_any v w2 H.out hu).mono ?_
  rintro e w3 ⟨A,n,rfl,h1,h2,h3⟩
  go_wp2_with fail
  go_ret
  exact Tz74
 ·rw [show getF S N s li st kd=(setS S N s li st zl8 rfl,[ms4 kd li false false]) by unfold getF;rw [if_pos hr]]
  rw [hr] at hf
  generalize Y5 S N s.1 li=v at hf
  go_enter Tryz.func134,Tryz.ntmps134
  try dsimp only [List.append]
  go_wp2_with fail
  refine hf.mono ?_
  clear hf
  rintro e w2 ⟨rfl,c2⟩
  replace H:=Vh (H.out.keep c2)
  replace CW:=Vh (CW.out.trans (Zp c2))
  clear c2
  have rG:=H.out.2.1
  go_wp2_with fail
  refine (gsetz_any H.out hu li st).mono ?_
  rintro e w4 ⟨rfl,h4,c4⟩
  go_wp2_with fail
  go_ret
  exact AgRet.one (f:=fun v=>v) h4 (CW.out.trans c4) _
theorem gload_any {W:World} {g a b S N:Nat} {s:Sta} (li k:Int) (w:World) (h:Agt W w g a b S N s) (hu:s.2≤1000000000):Calls Tryz.prog 81 #[.pointer (some ⟨g,0,none⟩),.int .i64 li,.int .i64 k] w (AgRet W w g a b S N (loadF S N s li k).1 (fun v=>.tuple #[.int .u64 (loadF S N s li k).2.1,.bool (loadF S N s li k).2.2.1,v]) (loadF S N s li k).2.2.2):=by
 have H:=Vh h
 have rG:=h.2.1
 have CW:=Vh (Chg.refl [a,b] w)
 clear h
 have hf:=YR H.out li
 cases t1:isLn li
 ·rw [show loadF S N s li k=(s,(0,false,[])) by unfold loadF;rw [if_neg (by simp [t1])]]
  exact Tz87
 cases t2:isWd k
 ·rw [show loadF S N s li k=(s,(0,false,[])) by unfold loadF;rw [if_neg (by simp [t2])]]
  exact Tz87
 obtain ⟨K,hK,rfl⟩:∃K:Nat,K<8∧k=K:=by simp [isWd] at t2;exact ⟨k.toNat,by omega,by omega⟩
 cases hm:mayR (Qn s.1 li).st
 ·cases hi:Jy s.1
  ·rw [show loadF S N s li K=(s,(0,false,[])) by unfold loadF;rw [if_pos (by simp [t1,t2]),if_neg (by simp [hm]),if_neg (by simp [hi])]]
   generalize Qn s.1 li=x at hf hm
   go_enter Tryz.func81,Tryz.ntmps81
   try dsimp only [List.append]
   go_wp2_with (first |(go_at_call 128;refine (YJ _ _ t1 _).mono ?_;rintro e w' ⟨rfl,rfl⟩)|(go_at_call 129;refine (J0 _ _ t2 _).mono ?_;rintro e w' ⟨rfl,rfl⟩))
   refine hf.mono ?_
   clear hf
   rintro e w2 ⟨rfl,c2⟩
   replace H:=Vh (H.out.keep c2)
   replace CW:=Vh (CW.out.trans (Zp c2))
   clear c2
   have rG:=H.out.2.1
   go_wp2_with fail
   have cb:=(Chg.refl [] w2).alloc (.cells (slc x) 54 (0,0))
   have rX:(w2.alloc (.cells (slc x) 54 (0,0))).heap[w2.heap.size]? =some (.cells (slc x) 54 (0,0)):=by simp
   have nX:=H.out.new2 (k:=w2.heap.size) (Nat.le_refl _)
   have mX:=H.out.new3 (k:=w2.heap.size) (Nat.le_refl _)
   have vX:=H.out.1.1.size
   have uXx:=CW.out.size
   replace H:=Vh (H.out.keep cb)
   replace CW:=Vh (CW.out.trans (Zp cb))
   clear cb
   generalize w2.heap.size=pX at rX nX mX vX uXx ⊢
   generalize w2.alloc (.cells (slc x) 54 (0,0))=w3 at rX H CW ⊢
   have rG:=H.out.2.1
   have oX:=old rX
   refine (gread_at _ _ hm _).mono ?_
   rintro e w' ⟨rfl,rfl⟩
   go_wp2_with fail
   refine (Qaw _ hi w3 H.out).mono ?_
   rintro e w4 ⟨rfl,c4⟩
   go_wp2_with fail
   go_ret3
   exact AgRet.nil (f:=fun v=>.tuple #[.int .u64 0,.bool false,v]) (H.out.keep c4) (CW.out.trans (Zp c4))
  ·rw [show loadF S N s li K=((getF S N s li 4 1).1,(0,false,(getF S N s li 4 1).2)) by unfold loadF;rw [if_pos (by simp [t1,t2]),if_neg (by simp [hm]),if_pos hi]]
   generalize Qn s.1 li=x at hf hm
   go_enter Tryz.func81,Tryz.ntmps81
   try dsimp only [List.append]
   go_wp2_with (first |(go_at_call 128;refine (YJ _ _ t1 _).mono ?_;rintro e w' ⟨rfl,rfl⟩)|(go_at_call 129;refine (J0 _ _ t2 _).mono ?_;rintro e w' ⟨rfl,rfl⟩))
   refine hf.mono ?_
   clear hf
   rintro e w2 ⟨rfl,c2⟩
   replace H:=Vh (H.out.keep c2)
   replace CW:=Vh (CW.out.trans (Zp c2))
   clear c2
   have rG:=H.out.2.1
   go_wp2_with fail
   have cb:=(Chg.refl [] w2).alloc (.cells (slc x) 54 (0,0))
   have rX:(w2.alloc (.cells (slc x) 54 (0,0))).heap[w2.heap.size]? =some (.cells (slc x) 54 (0,0)):=by simp
   have nX:=H.out.new2 (k:=w2.heap.size) (Nat.le_refl _)
   have mX:=H.out.new3 (k:=w2.heap.size) (Nat.le_refl _)
   have vX:=H.out.1.1.size
   have uXx:=CW.out.size
   replace H:=Vh (H.out.keep cb)
   replace CW:=Vh (CW.out.trans (Zp cb))
   clear cb
   generalize w2.heap.size=pX at rX nX mX vX uXx ⊢
   generalize w2.alloc (.cells (slc x) 54 (0,0))=w3 at rX H CW ⊢
   have rG:=H.out.2.1
   have oX:=old rX
   refine (gread_at _ _ hm _).mono ?_
   rintro e w' ⟨rfl,rfl⟩
   go_wp2_with fail
   refine (Qaw _ hi w3 H.out).mono ?_
   rintro e w4 ⟨rfl,c4⟩
   replace H:=Vh (H.out.keep c4)
   replace CW:=Vh (CW.out.trans (Zp c4))
   clear c4
   have rG:=H.out.2.1
   go_wp2_with fail
   refine (gget_any li 4 1 w4 H.out hu).mono ?_
   rintro e w5 ⟨A,n,rfl,h1,h2,h3⟩
   go_wp2_with fail
   go_ret3
   exact Tz74
 ·rw [show loadF S N s li K=(Qb4 s li,((Qn s.1 li).l.getD K 0,true,[])) by unfold loadF;rw [if_pos (by simp [t1,t2]),if_pos hm,Int.toNat_natCast]]
  generalize Qn s.1 li=x at hf hm
  have hwd:=slc_word x K hK
  have g1:(K:Int)<8:=by omega
  have g0:(0:Int)≤(K:Int):=by omega
  go_enter Tryz.func81,Tryz.ntmps81
  try dsimp only [List.append]
  go_wp2_with (first |(go_at_call 128;refine (YJ _ _ t1 _).mono ?_;rintro e w' ⟨rfl,rfl⟩)|(go_at_call 129;refine (J0 _ _ t2 _).mono ?_;rintro e w' ⟨rfl,rfl⟩))
  refine hf.mono ?_
  clear hf
  rintro e w2 ⟨rfl,c2⟩
  replace H:=Vh (H.out.keep c2)
  replace CW:=Vh (CW.out.trans (Zp c2))
  clear c2
  have rG:=H.out.2.1
  go_wp2_with fail
  have cb:=(Chg.refl [] w2).alloc (.cells (slc x) 54 (0,0))
  have rX:(w2.alloc (.cells (slc x) 54 (0,0))).heap[w2.heap.size]? =some (.cells (slc x) 54 (0,0)):=by simp
  have nX:=H.out.new2 (k:=w2.heap.size) (Nat.le_refl _)
  have mX:=H.out.new3 (k:=w2.heap.size) (Nat.le_refl _)
  have vX:=H.out.1.1.size
  have uXx:=CW.out.size
  replace H:=Vh (H.out.keep cb)
  replace CW:=Vh (CW.out.trans (Zp cb))
  clear cb
  generalize w2.heap.size=pX at rX nX mX vX uXx ⊢
  generalize w2.alloc (.cells (slc x) 54 (0,0))=w3 at rX H CW ⊢
  have rG:=H.out.2.1
  have oX:=old rX
  refine (gread_at _ _ hm _).mono ?_
  rintro e w' ⟨rfl,rfl⟩
  go_wp2_with fail
  refine (gtouch_any H.out hu li).mono ?_
  rintro e w4 ⟨rfl,h4,c4⟩
  replace rX:=c4.keep rX nX
  go_wp2_with fail
  go_ret3
  exact AgRet.nil (f:=fun v=>.tuple #[.int .u64 (x.l.getD K 0),.bool true,v]) h4 (CW.out.trans c4)
theorem greach_any {W:World} {g a b S N:Nat} {s:Sta} (li:Int) (w:World) (h:Agt W w g a b S N s) (hu:s.2≤1000000000):Calls Tryz.prog 104 #[.pointer (some ⟨g,0,none⟩),.int .i64 li] w (AgRet W w g a b S N (reachF S N s li).1 (fun v=>v) (reachF S N s li).2):=by
 have H:=Vh h
 have rG:=h.2.1
 have CW:=Vh (Chg.refl [a,b] w)
 clear h
 have hf:=YR H.out li
 cases t1:isLn li
 ·rw [show reachF S N s li=(s,[]) by unfold reachF;rw [if_neg (by simp [t1])]]
  go_enter Tryz.func104,Tryz.ntmps104
  try dsimp only [List.append]
  go_wp2_with (go_at_call 128;refine (YJ _ _ t1 _).mono ?_;rintro e w' ⟨rfl,rfl⟩)
  go_ret
  exact AgRet.nil (f:=fun v=>v) H.out CW.out
 cases ho:JN s.1 li
 rotate_left
 ·rw [show reachF S N s li=(s,[]) by unfold reachF;rw [if_neg (by simp [ho])]]
  go_enter Tryz.func104,Tryz.ntmps104
  try dsimp only [List.append]
  go_wp2_with (go_at_call 128;refine (YJ _ _ t1 _).mono ?_;rintro e w' ⟨rfl,rfl⟩)
  refine (Qcx li _ ho w H.out).mono ?_
  rintro e w3 ⟨rfl,c3⟩
  go_wp2_with fail
  go_ret
  exact AgRet.nil (f:=fun v=>v) (H.out.keep c3) (Zp c3)
 cases hi:Jy s.1
 ·rw [show reachF S N s li=(s,[]) by unfold reachF;rw [if_neg (by simp [hi])]]
  go_enter Tryz.func104,Tryz.ntmps104
  try dsimp only [List.append]
  go_wp2_with (go_at_call 128;refine (YJ _ _ t1 _).mono ?_;rintro e w' ⟨rfl,rfl⟩)
  refine (Qcx li _ ho w H.out).mono ?_
  rintro e w3 ⟨rfl,c3⟩
  go_wp2_with fail
  refine (Qaw _ hi w3 (H.out.keep c3)).mono ?_
  rintro e w4 ⟨rfl,c4⟩
  go_wp2_with fail
  go_ret
  exact AgRet.nil (f:=fun v=>v) ((H.out.keep c3).keep c4) (Zp (c3.trans c4))
 have hgo:(isLn li&&!JN s.1 li&&Jy s.1)=true:=by simp [t1,ho,hi]
 cases hd:Xt s.1 li
 ·rw [show reachF S N s li=getF S N s li 5 2 by unfold reachF;rw [if_pos hgo,if_neg (by simp [hd])]]
  clear hgo
  generalize Qn s.1 li=x at hf
  rw [hd] at hf
  go_enter Tryz.func104,Tryz.ntmps104
  try dsimp only [List.append]
  go_wp2_with (go_at_call 128;refine (YJ _ _ t1 _).mono ?_;rintro e w' ⟨rfl,rfl⟩)
  refine (Qcx li _ ho w H.out).mono ?_
  rintro e w3 ⟨rfl,c3⟩
  go_wp2_with fail
  refine (Qaw _ hi w3 (H.out.keep c3)).mono ?_
  rintro e w4 ⟨rfl,c4⟩
  replace hf:=YR ((H.out.keep c3).keep c4) li
  rw [hd] at hf
  replace H:=Vh (H.out.keep c3)
  replace CW:=Vh (CW.out.trans (Zp c3))
  clear c3
  have rG:=H.out.2.1
  replace H:=Vh (H.out.keep c4)
  replace CW:=Vh (CW.out.trans (Zp c4))
  clear c4
  have rG:=H.out.2.1
  go_wp2_with fail
  refine hf.mono ?_
  clear hf
  rintro e w2 ⟨rfl,c2⟩
  generalize Qn s.1 li=x
  replace H:=Vh (H.out.keep c2)
  replace CW:=Vh (CW.out.trans (Zp c2))
  clear c2
  have rG:=H.out.2.1
  go_wp2_with fail
  have cb:=(Chg.refl [] w2).alloc (.cells (slc x) 54 (0,0))
  have rX:(w2.alloc (.cells (slc x) 54 (0,0))).heap[w2.heap.size]? =some (.cells (slc x) 54 (0,0)):=by simp
  have nX:=H.out.new2 (k:=w2.heap.size) (Nat.le_refl _)
  have mX:=H.out.new3 (k:=w2.heap.size) (Nat.le_refl _)
  have vX:=H.out.1.1.size
  have uXx:=CW.out.size
  replace H:=Vh (H.out.keep cb)
  replace CW:=Vh (CW.out.trans (Zp cb))
  clear cb
  generalize w2.heap.size=pX at rX nX mX vX uXx ⊢
  generalize w2.alloc (.cells (slc x) 54 (0,0))=w5 at rX H CW ⊢
  have rG:=H.out.2.1
  have oX:=old rX
  refine (gget_any li 5 2 w5 H.out hu).mono ?_
  rintro e w6 ⟨A,n,rfl,h1,h2,h3⟩
  go_wp2_with fail
  go_ret
  exact Tz74
 ·rw [show reachF S N s li=(setS S N s li 6 (Qn s.1 li).l (Qn s.1 li).h,[ms4 2 li false false]) by unfold reachF;rw [if_pos hgo,if_pos hd]]
  clear hgo
  replace hf:=fun W' hW=>YR (w:=W') (s:=s) (W:=W) (g:=g) (a:=a) (b:=b) (S:=S) (N:=N) hW li
  simp only [hd] at hf
  generalize Qn s.1 li=x at hf
  go_enter Tryz.func104,Tryz.ntmps104
  try dsimp only [List.append]
  go_wp2_with (go_at_call 128;refine (YJ _ _ t1 _).mono ?_;rintro e w' ⟨rfl,rfl⟩)
  refine (Qcx li _ ho w H.out).mono ?_
  rintro e w3 ⟨rfl,c3⟩
  go_wp2_with fail
  refine (Qaw _ hi w3 (H.out.keep c3)).mono ?_
  rintro e w4 ⟨rfl,c4⟩
  replace H:=Vh (H.out.keep c3)
  replace CW:=Vh (CW.out.trans (Zp c3))
  clear c3
  have rG:=H.out.2.1
  replace H:=Vh (H.out.keep c4)
  replace CW:=Vh (CW.out.trans (Zp c4))
  clear c4
  have rG:=H.out.2.1
  go_wp2_with fail
  refine (hf w4 H.out).mono ?_
  clear hf
  rintro e w2 ⟨rfl,c2⟩
  replace H:=Vh (H.out.keep c2)
  replace CW:=Vh (CW.out.trans (Zp c2))
  clear c2
  have rG:=H.out.2.1
  go_wp2_with fail
  have cb:=(Chg.refl [] w2).alloc (.cells (slc x) 54 (0,0))
  have rX:(w2.alloc (.cells (slc x) 54 (0,0))).heap[w2.heap.size]? =some (.cells (slc x) 54 (0,0)):=by simp
  have nX:=H.out.new2 (k:=w2.heap.size) (Nat.le_refl _)
  have mX:=H.out.new3 (k:=w2.heap.size) (Nat.le_refl _)
  have vX:=H.out.1.1.size
  have uXx:=CW.out.size
  replace H:=Vh (H.out.keep cb)
  replace CW:=Vh (CW.out.trans (Zp cb))
  clear cb
  generalize w2.heap.size=pX at rX nX mX vX uXx ⊢
  generalize w2.alloc (.cells (slc x) 54 (0,0))=w5 at rX H CW ⊢
  have rG:=H.out.2.1
  have oX:=old rX
  go_wp2_with fail
  have nG:=H.out.2.2.2.1
  go_region_held3 (fun w'=>w'.heap[g]? =some (.cells #[.pointer (some ⟨a,0,none⟩)] 206 (0,0))∧w'.heap[pX]? =some (.cells (slc x) 54 (0,0))) (first |exact ⟨rG,rX⟩|exact ⟨c4.keep rG nG,c4.keep rX nX⟩)
   (first
    |(go_at_call 140;refine (Qed (H.out.keep (Chg.drew (Chg.refl [] w5))) hu li 6 x.l x.h).mono ?_;rintro e w4 ⟨rfl,h4,c4⟩))
  all_goals
   replace H:=Vh h4
   replace CW:=Vh (CW.out.trans (Chg.trans (Chg.drew (Chg.refl [a,b] w5)) c4))
   replace rX:=c4.keep rX nX
   clear h4 c4 rG
   have rG:=H.out.2.1
   go_wp2_with fail
   go_ret
   exact AgRet.one (f:=fun v=>v) H.out CW.out _
theorem gstore_any {W:World} {g a b S N:Nat} {s:Sta} (li k v0:Int) (w:World) (h:Agt W w g a b S N s) (hu:s.2≤1000000000):Calls Tryz.prog 88 #[.pointer (some ⟨g,0,none⟩),.int .i64 li,.int .i64 k,.int .u64 v0] w (AgRet W w g a b S N (storeF S N s li k v0).1 (fun v=>.tuple #[.bool (storeF S N s li k v0).2.1,v]) (storeF S N s li k v0).2.2):=by
 have H:=Vh h
 have rG:=h.2.1
 have CW:=Vh (Chg.refl [a,b] w)
 clear h
 have hf:=YR H.out li
 cases t1:isLn li
 ·rw [show storeF S N s li k v0=(s,(false,[])) by unfold storeF;rw [if_neg (by simp [t1])]]
  exact Tz89
 cases t2:isWd k
 ·rw [show storeF S N s li k v0=(s,(false,[])) by unfold storeF;rw [if_neg (by simp [t2])]]
  exact Tz89
 obtain ⟨K,hK,rfl⟩:∃K:Nat,K<8∧k=K:=by simp [isWd] at t2;exact ⟨k.toNat,by omega,by omega⟩
 cases hm:Qfk (Qn s.1 li).st
 ·rw [show storeF S N s li K v0=((reachF S N s li).1,(false,(reachF S N s li).2)) by unfold storeF JN;rw [if_pos (by simp [t1,t2]),if_neg (by simp [hm])]]
  generalize Qn s.1 li=x at hf hm
  go_enter Tryz.func88,Tryz.ntmps88
  try dsimp only [List.append]
  go_wp2_with (first |(go_at_call 128;refine (YJ _ _ t1 _).mono ?_;rintro e w' ⟨rfl,rfl⟩)|(go_at_call 129;refine (J0 _ _ t2 _).mono ?_;rintro e w' ⟨rfl,rfl⟩))
  refine hf.mono ?_
  clear hf
  rintro e w2 ⟨rfl,c2⟩
  replace H:=Vh (H.out.keep c2)
  replace CW:=Vh (CW.out.trans (Zp c2))
  clear c2
  have rG:=H.out.2.1
  go_wp2_with fail
  have cb:=(Chg.refl [] w2).alloc (.cells (slc x) 54 (0,0))
  have rX:(w2.alloc (.cells (slc x) 54 (0,0))).heap[w2.heap.size]? =some (.cells (slc x) 54 (0,0)):=by simp
  have nX:=H.out.new2 (k:=w2.heap.size) (Nat.le_refl _)
  have mX:=H.out.new3 (k:=w2.heap.size) (Nat.le_refl _)
  have vX:=H.out.1.1.size
  have uXx:=CW.out.size
  replace H:=Vh (H.out.keep cb)
  replace CW:=Vh (CW.out.trans (Zp cb))
  clear cb
  generalize w2.heap.size=pX at rX nX mX vX uXx ⊢
  generalize w2.alloc (.cells (slc x) 54 (0,0))=w3 at rX H CW ⊢
  have rG:=H.out.2.1
  have oX:=old rX
  refine (gwrite_at _ _ hm _).mono ?_
  rintro e w' ⟨rfl,rfl⟩
  go_wp2_with fail
  refine (greach_any li w3 H.out hu).mono ?_
  rintro e w5 ⟨A,n,rfl,h1,h2,h3⟩
  go_wp2_with fail
  go_ret2
  exact Tz74
 ·have e1:storeF S N s li K v0=(setS S N s li 3 ((Qn s.1 li).l.set K v0) Cz32,(true,[])):=by
   unfold storeF JN;rw [if_pos (by simp [t1,t2]),if_pos hm];rfl
  rw [e1]
  clear e1
  generalize Qn s.1 li=x at hf hm
  have hx8:=x.h
  have hsw:=slc_setWord x K v0 hK
  have hwd:=slc_word x K hK
  have g1:(K:Int)<8:=by omega
  have g0:(0:Int)≤(K:Int):=by omega
  have hl8:(x.l.set K v0).length=8:=by rw [List.length_set];exact x.h
  go_enter Tryz.func88,Tryz.ntmps88
  try dsimp only [List.append]
  go_wp2_with (first |(go_at_call 128;refine (YJ _ _ t1 _).mono ?_;rintro e w' ⟨rfl,rfl⟩)|(go_at_call 129;refine (J0 _ _ t2 _).mono ?_;rintro e w' ⟨rfl,rfl⟩))
  refine hf.mono ?_
  clear hf
  rintro e w2 ⟨rfl,c2⟩
  replace H:=Vh (H.out.keep c2)
  replace CW:=Vh (CW.out.trans (Zp c2))
  clear c2
  have rG:=H.out.2.1
  go_wp2_with fail
  have cb:=(Chg.refl [] w2).alloc (.cells (slc x) 54 (0,0))
  have rX:(w2.alloc (.cells (slc x) 54 (0,0))).heap[w2.heap.size]? =some (.cells (slc x) 54 (0,0)):=by simp
  have nX:=H.out.new2 (k:=w2.heap.size) (Nat.le_refl _)
  have mX:=H.out.new3 (k:=w2.heap.size) (Nat.le_refl _)
  have vX:=H.out.1.1.size
  have uXx:=CW.out.size
  replace H:=Vh (H.out.keep cb)
  replace CW:=Vh (CW.out.trans (Zp cb))
  clear cb
  generalize w2.heap.size=pX at rX nX mX vX uXx ⊢
  generalize w2.alloc (.cells (slc x) 54 (0,0))=w3 at rX H CW ⊢
  have rG:=H.out.2.1
  have oX:=old rX
  refine (gwrite_at _ _ hm _).mono ?_
  rintro e w' ⟨rfl,rfl⟩
  go_wp2_with fail
  have cb:Chg [pX] w3 (w3.setCell ⟨pX,2+K,none⟩ (.int .u64 v0)):=(Chg.refl [pX] w3).setCell _ _ _ (.inl (by simp))
  have rX2:(w3.setCell ⟨pX,2+K,none⟩ (.int .u64 v0)).heap[pX]? =some (.cells (slc (x.putL (x.l.set K v0) hl8)) 54 (0,0)):=by simp [rX,hsw]
  replace CW:=Vh (CW.out.trans' cb (by simp [uXx]))
  replace H:=Vh (H.out.apart cb mX vX)
  clear cb rX rG hsw hwd
  have rX:=rX2
  clear rX2
  generalize w3.setCell ⟨pX,2+K,none⟩ (.int .u64 v0)=w5 at rX H CW ⊢
  have rG:=H.out.2.1
  have oX:=old rX
  have nG:=H.out.2.2.2.1
  go_region_held3 (fun w'=>w'.heap[g]? =some (.cells #[.pointer (some ⟨a,0,none⟩)] 206 (0,0))∧w'.heap[pX]? =some (.cells (slc (x.putL (x.l.set K v0) hl8)) 54 (0,0))) (first |exact ⟨rG,rX⟩|exact ⟨c4.keep rG nG,c4.keep rX nX⟩)
   (first
    |(go_at_call 140;refine (Qed (H.out.keep (Chg.drew (Chg.refl [] w5))) hu li 3 (x.l.set K v0) hl8).mono ?_;rintro e w4 ⟨rfl,h4,c4⟩))
  all_goals
   replace H:=Vh h4
   replace CW:=Vh (CW.out.trans (Chg.trans (Chg.drew (Chg.refl [a,b] w5)) c4))
   replace rX:=c4.keep rX nX
   clear h4 c4 rG
   have rG:=H.out.2.1
   go_wp2_with fail
   go_ret2
   exact AgRet.nil (f:=fun v=>.tuple #[.bool true,v]) H.out CW.out
end
section
attribute [local go_sem ↓] QA QQ QH Q8 QS QC Za QN Zs Zh Qm Ql heap_alloc Qo heap_setCell Qb ZF Z4 Z5 Z3 Zc ZB Zk ZI Zv ZM ZK ZN ZL
attribute [local go_sem] Qc Qa Qd Qj Qf Qe Qh Qi Qw ZE QZ Zq QO QG Q6 Q0 Q5 Zi Q9 QM QB QI Zj Q7 Qz QP Qt Qk Qs Qr Qq Qp Qg Zb Ze lit8 QF ZG Zr Zt ZC Zd Zy ZH Zz Qv ZA Zl Zm QE QD QR ZO JZ JY
attribute [local simp ↓] Qm Ql heap_alloc Qo heap_setCell Qb
attribute [local simp] Qc Qa Qd Qj Qf Qe Qh Qi Qw QB Qk Qs Qr Qq Qp Qg QF Qv QE QD QR QI JZ JY
def tbL:List Value:=((List.range 15).map fun k:Nat=>(List.range 10).map fun j:Nat=>Value.int .i64 (tb k j)).flatten
def TabB (w:World):Prop:=∃t f,w.heap[0]? =some (.cells tbL.toArray t f)
theorem TabB.keep {w w':World} {l:List Nat} (h:TabB w) (hc:Chg l w w') (h0:0∉l):TabB w':=by
 obtain ⟨t,f,h⟩:=h
 exact ⟨t,f,hc.keep h h0⟩
theorem tb_cell (k j:Nat) (hk:k<15) (hj:j<10):tbL.toArray[k*10+j]? =some (.int .i64 (tb k j)):=by
 have h:∀k:Nat,k<15→∀j:Nat,j<10→tbL[k*10+j]? =some (.int .i64 (tb k j)):=by
  intro k hk j hj
  have h1:k=0∨k=1∨k=2∨k=3∨k=4∨k=5∨k=6∨k=7∨k=8∨k=9∨k=10∨k=11∨k=12∨k=13∨k=14:=by omega
  have h2:j=0∨j=1∨j=2∨j=3∨j=4∨j=5∨j=6∨j=7∨j=8∨j=9:=by omega
  rcases h1 with rfl|rfl|rfl|rfl|rfl|rfl|rfl|rfl|rfl|rfl|rfl|rfl|rfl|rfl|rfl<;>rcases h2 with rfl|rfl|rfl|rfl|rfl|rfl|rfl|rfl|rfl|rfl<;>rfl
 rw [List.getElem?_toArray]
 exact h k hk j hj
def Tabs (W:World):Prop:=Tab W∧TabB W
theorem Qbj (m:Ms) (b:Bool) (h:mg m=b) (w:World) (ht:Tab w):Calls Tryz.prog 144 #[.agg (msc m)] w fun e w'=>e=.returned (.bool b)∧Chg [] w w':=h▸Qgm m w ht
theorem Qbi (k:Int) (b:Bool) (h:Z1 k=b) (w:World):Calls Tryz.prog 149 #[.int .i64 k] w fun e w'=>e=.returned (.bool b)∧w=w':=h▸tells_any k w
theorem gevict_any {W:World} {g a b S N:Nat} {s:Sta} (li:Int) (w:World) (h:Agt W w g a b S N s) (hu:s.2≤1000000000):Calls Tryz.prog 87 #[.pointer (some ⟨g,0,none⟩),.int .i64 li] w (AgRet W w g a b S N (evictF S N s li).1 (fun v=>.tuple #[v,.int .i64 (evictF S N s li).2.2]) (evictF S N s li).2.1):=by
 have H:=Vh h
 have rG:=h.2.1
 have CW:=Vh (Chg.refl [a,b] w)
 clear h
 cases hi:Jy s.1
 ·rw [show evictF S N s li=(s,([],15)) by unfold evictF;rw [if_neg (by simp [hi])]]
  go_enter Tryz.func87,Tryz.ntmps87
  try dsimp only [List.append]
  go_wp2_with fail
  refine (Qaw _ hi w H.out).mono ?_
  rintro e w2 ⟨rfl,c2⟩
  go_wp2_with fail
  go_ret2
  exact AgRet.nil (f:=fun v=>.tuple #[v,.int .i64 15]) (H.out.keep c2) (Zp c2)
 ·have ho:=fun w' h=>gout_any (W:=W) (g:=g) (a:=a) (b:=b) (S:=S) (N:=N) (s:=s) li w' h hu
  cases hr:Xs (Qn s.1 li).st
  ·rw [show evictF S N s li=(s,([],14)) by unfold evictF;rw [if_pos hi,out_no hr];rfl]
   rw [out_no hr] at ho
   go_enter Tryz.func87,Tryz.ntmps87
   try dsimp only [List.append]
   go_wp2_with fail
   refine (Qaw _ hi w H.out).mono ?_
   rintro e w2 ⟨rfl,c2⟩
   replace H:=Vh (H.out.keep c2)
   replace CW:=Vh (CW.out.trans (Zp c2))
   clear c2
   have rG:=H.out.2.1
   go_wp2_with fail
   refine (ho w2 H.out).mono ?_
   rintro e w3 ⟨A,n,rfl,h1,h2,h3⟩
   go_wp2_with fail
   go_ret2
   exact AgRet.nil (f:=fun v=>.tuple #[v,.int .i64 14]) h2 (CW.out.trans h3)
  ·rw [show evictF S N s li=((outF S N s li).1,((outF S N s li).2,0)) by unfold evictF;rw [if_pos hi,Qgh hr];rfl]
   rw [Qgh hr] at ho ⊢
   generalize Yf 3 (Qn s.1 li) false=m0 at ho
   generalize setS S N s li (Qc7 (Qn s.1 li).st) (Qn s.1 li).l (Qn s.1 li).h=s1 at ho
   go_enter Tryz.func87,Tryz.ntmps87
   try dsimp only [List.append]
   go_wp2_with fail
   refine (Qaw _ hi w H.out).mono ?_
   rintro e w2 ⟨rfl,c2⟩
   replace H:=Vh (H.out.keep c2)
   replace CW:=Vh (CW.out.trans (Zp c2))
   clear c2
   have rG:=H.out.2.1
   go_wp2_with fail
   refine (ho w2 H.out).mono ?_
   rintro e w3 ⟨A,n,rfl,h1,h2,h3⟩
   go_wp2_with fail
   go_ret2
   exact Tz74
theorem snew_at (w:World) (o:Obj):(w.alloc o).heap[w.heap.size]? =some o:=by simp
theorem Qfr {w:World} {r:Nat} {x y:Slt} {t:TypeId} (h:w.heap[r]? =some (.cells (slc y) t (0,0))):(putRow w r 0 (slc x)).heap[r]? =some (.cells (slc x) t (0,0)):=by
 simp [h,QF]
theorem AgRet.ms {W w w1 w2:World} {g a b S N:Nat} {s:Sta} {f:Value→Value} {A:Option Addr} {ms:List Ms} {n:Nat} (h:Agt W w1 g a b S N s) (hc:Chg [a,b] w w1) (h1:Told w1 w2 A ms) (c:Chg [] w1 w2):AgRet W w g a b S N s f ms (.returned (f (.slice A ms.length n))) w2:=
 ⟨A,n,rfl,h1.from hc.size,h.keep c,hc.trans (Zp c)⟩
theorem ghear_args {W:World} {g a b S N:Nat} {s:Sta} (m:Ms) (gg:(mg m&&Z1 m.kd)=false) (w:World) (h:Agt W w g a b S N s) (hu:s.2≤1000000000) (hT:Tabs W):Calls Tryz.prog 93 #[.pointer (some ⟨g,0,none⟩),.agg (msc m)] w (AgRet W w g a b S N (hearF S N s m).1 (fun v=>.tuple #[v,.int .i64 (hearF S N s m).2.2]) (hearF S N s m).2.1):=by
 have H:=Vh h
 have rG:=h.2.1
 have CW:=Vh (Chg.refl [a,b] w)
 clear h
 rw [show hearF S N s m=(s,([],1)) by unfold hearF;rw [if_neg (by simp [gg])]]
 cases g3:mg m
 ·skip
  exact Tz45
 ·have g4:Z1 m.kd=false:=by simpa [g3] using gg
  exact Tz45
set_option maxHeartbeats 4000000 in
theorem ghear_0 {W:World} {g a b S N:Nat} {s:Sta} (m:Ms) (g3:mg m=true) (g4:Z1 m.kd=true) (nx:Int) (hnx:nx=tb m.kd (Qn s.1 m.li).st) (n0:nx=0) (w:World) (h:Agt W w g a b S N s) (hu:s.2≤1000000000) (hT:Tabs W):Calls Tryz.prog 93 #[.pointer (some ⟨g,0,none⟩),.agg (msc m)] w (AgRet W w g a b S N (hearF S N s m).1 (fun v=>.tuple #[v,.int .i64 (hearF S N s m).2.2]) (hearF S N s m).2.1):=by
 have H:=Vh h
 have rG:=h.2.1
 have CW:=Vh (Chg.refl [a,b] w)
 clear h
 have HN:=Vh (H.out.new2 (k:=w.heap.size) (Nat.le_refl _))
 have hf:=fun W' hW=>YR (w:=W') (s:=s) (W:=W) (g:=g) (a:=a) (b:=b) (S:=S) (N:=N) hW m.li
 have hsa:=Qam H.out.sane m.li
 have hg:(mg m&&Z1 m.kd)=true:=by simp [g3,g4]
 rw [show hearF S N s m=(s,([],16)) by unfold hearF;rw [if_pos hg,←hnx,if_pos n0]]
 have n0':(nx==0)=true:=by simp [n0]
 clear hg n0
 generalize Qn s.1 m.li=x at hf hnx hsa
 go_enter Tryz.func93,Tryz.ntmps93
 try dsimp only [List.append]
 go_wp2_with fail
 refine JF (w:=w) (b1:=w.heap.size) (x1:=.cells (msc m) 38 (0,0)) Cz0 (by simp [*]) fun w1 C1 rM=>?_
 have oM:=old rM
 refine (Qbj m _ g3 w1 (hT.1.keep (H.out.1.1.trans C1) (by simp))).mono ?_
 rintro e w3 ⟨rfl,c3⟩
 replace rM:=c3.keep rM Vn
 have C3:=C1.trans c3
 replace H:=Vh (H.out.keep C3)
 replace CW:=Vh (Zp (a:=a) (b:=b) C3)
 have nM:=H.out.new2 (k:=w.heap.size)
 clear C1 c3 C3 oM nM
 have rG:=H.out.2.1
 have oM:=old rM
 go_upto_region 3 with (go_at_call 149;refine (Qbi _ _ g4 _).mono ?_;rintro e w' ⟨rfl,rfl⟩)
 go_cut [6,7] (fun p q wx=>∃pX,p=.pointer (some ⟨pX,0,none⟩)∧q=.bool (Xt s.1 m.li)∧wx.heap[pX]? =some (.cells (slc x) 54 (0,0))∧Chg [] w3 wx∧w3.heap.size≤pX)
 case first=>
  exact Tz11
 case rest=>
 obtain ⟨pX,rfl,rfl,rX,c5,lX⟩:=hcut
 have nX:=H.out.new2 lX
 generalize hw5:wc=w5 at *
 clear hw5
 replace rM:=c5.keep rM Vn
 have nM:w.heap.size∉[a,b]:=HN.out
 replace H:=Vh (H.out.keep c5)
 replace CW:=Vh (CW.out.trans (Zp c5))
 clear c5
 have rG:=H.out.2.1
 have oM:=old rM
 have oX:=old rX
 have nG:=H.out.2.2.2.1
 obtain ⟨Kd,hKd,hKd2⟩:∃K:Nat,K<15∧m.kd=K:=by simp [Z1] at g4;exact ⟨m.kd.toNat,by omega,by omega⟩
 obtain ⟨Ks,hKs,hKs2⟩:∃K:Nat,K<10∧x.st=K:=⟨x.st.toNat,by omega,by omega⟩
 have hcell:=tb_cell Kd Ks hKd hKs
 rw [←hKd2,←hKs2,←hnx] at hcell
 clear hnx
 obtain ⟨tT,fT,rT⟩:=hT.2.keep H.out.1.1 (by simp)
 have k1:(Kd:Int)<15:=by omega
 have k2:(Ks:Int)<10:=by omega
 have k3:(0:Int)≤(Kd:Int):=by omega
 have k4:(0:Int)≤(Ks:Int):=by omega
 go_wp2_with fail
 go_quiet (fail)
 go_wp2_with fail
 go_ret2
 exact AgRet.nil (f:=fun v=>.tuple #[v,.int .i64 16]) (H.out.keep (Chg.drewN (Chg.refl [] w5) _)) (CW.out.trans (Chg.drewN (Chg.refl [a,b] w5) _))
set_option maxHeartbeats 4000000 in
theorem ghear_10 {W:World} {g a b S N:Nat} {s:Sta} (m:Ms) (g3:mg m=true) (g4:Z1 m.kd=true) (nx:Int) (hnx:nx=tb m.kd (Qn s.1 m.li).st) (n10:nx=10) (w:World) (h:Agt W w g a b S N s) (hu:s.2≤1000000000) (hT:Tabs W):Calls Tryz.prog 93 #[.pointer (some ⟨g,0,none⟩),.agg (msc m)] w (AgRet W w g a b S N (hearF S N s m).1 (fun v=>.tuple #[v,.int .i64 (hearF S N s m).2.2]) (hearF S N s m).2.1):=by
 have H:=Vh h
 have rG:=h.2.1
 have CW:=Vh (Chg.refl [a,b] w)
 clear h
 have HN:=Vh (H.out.new2 (k:=w.heap.size) (Nat.le_refl _))
 have hf:=fun W' hW=>YR (w:=W') (s:=s) (W:=W) (g:=g) (a:=a) (b:=b) (S:=S) (N:=N) hW m.li
 have hsa:=Qam H.out.sane m.li
 have hg:(mg m&&Z1 m.kd)=true:=by simp [g3,g4]
 have n0:¬nx=0:=by omega
 rw [show hearF S N s m=(Qbz S N s m nx,(Z8 m.kd (Qn s.1 m.li) nx,0)) by unfold hearF;rw [if_pos hg,←hnx,if_neg n0]]
 have n0':(nx==0)=false:=by simp [n0]
 have n1':(nx==10)=true:=by simp [n10]
 rw [show Qbz S N s m nx=Qcm s m.li by unfold Qbz;rw [if_pos n10]]
 clear hg n0 n10
 generalize Qn s.1 m.li=x at hf hnx hsa
 go_enter Tryz.func93,Tryz.ntmps93
 try dsimp only [List.append]
 go_wp2_with fail
 refine JF (w:=w) (b1:=w.heap.size) (x1:=.cells (msc m) 38 (0,0)) Cz0 (by simp [*]) fun w1 C1 rM=>?_
 have oM:=old rM
 refine (Qbj m _ g3 w1 (hT.1.keep (H.out.1.1.trans C1) (by simp))).mono ?_
 rintro e w3 ⟨rfl,c3⟩
 replace rM:=c3.keep rM Vn
 have C3:=C1.trans c3
 replace H:=Vh (H.out.keep C3)
 replace CW:=Vh (Zp (a:=a) (b:=b) C3)
 have nM:=H.out.new2 (k:=w.heap.size)
 clear C1 c3 C3 oM nM
 have rG:=H.out.2.1
 have oM:=old rM
 go_upto_region 3 with (go_at_call 149;refine (Qbi _ _ g4 _).mono ?_;rintro e w' ⟨rfl,rfl⟩)
 go_cut [6,7] (fun p q wx=>∃pX,p=.pointer (some ⟨pX,0,none⟩)∧q=.bool (Xt s.1 m.li)∧wx.heap[pX]? =some (.cells (slc x) 54 (0,0))∧Chg [] w3 wx∧w3.heap.size≤pX)
 case first=>
  exact Tz11
 case rest=>
 obtain ⟨pX,rfl,rfl,rX,c5,lX⟩:=hcut
 have nX:=H.out.new2 lX
 generalize hw5:wc=w5 at *
 clear hw5
 replace rM:=c5.keep rM Vn
 have nM:w.heap.size∉[a,b]:=HN.out
 replace H:=Vh (H.out.keep c5)
 replace CW:=Vh (CW.out.trans (Zp c5))
 clear c5
 have rG:=H.out.2.1
 have oM:=old rM
 have oX:=old rX
 have nG:=H.out.2.2.2.1
 obtain ⟨Kd,hKd,hKd2⟩:∃K:Nat,K<15∧m.kd=K:=by simp [Z1] at g4;exact ⟨m.kd.toNat,by omega,by omega⟩
 obtain ⟨Ks,hKs,hKs2⟩:∃K:Nat,K<10∧x.st=K:=⟨x.st.toNat,by omega,by omega⟩
 have hcell:=tb_cell Kd Ks hKd hKs
 rw [←hKd2,←hKs2,←hnx] at hcell
 clear hnx
 obtain ⟨tT,fT,rT⟩:=hT.2.keep H.out.1.1 (by simp)
 have k1:(Kd:Int)<15:=by omega
 have k2:(Ks:Int)<10:=by omega
 have k3:(0:Int)≤(Kd:Int):=by omega
 have k4:(0:Int)≤(Ks:Int):=by omega
 go_wp2_with fail
 go_quiet (fail)
 clear hKd2 hKs2
 have cD:Chg [] w5 (w5.drewN nq):=Chg.drewN (Chg.refl [] w5) nq
 generalize w5.drewN nq=w6 at cD ⊢
 replace H:=Vh (H.out.keep cD)
 replace CW:=Vh (CW.out.trans (Zp cD))
 replace rM:=cD.keep rM Vn
 replace rX:=cD.keep rX Vn
 clear cD
 have rG:=H.out.2.1
 have oM:=old rM
 have oX:=old rX
 clear rT
 go_wp2_with fail
 go_region_held3 (fun w'=>w'.heap[g]? =some (.cells #[.pointer (some ⟨a,0,none⟩)] 206 (0,0))∧w'.heap[w.heap.size]? =some (.cells (msc m) 38 (0,0))∧w'.heap[pX]? =some (.cells (slc x) 54 (0,0))) (first |exact ⟨rG,rM,rX⟩|exact ⟨c8.keep rG Vn,c8.keep rM Vn,c8.keep rX Vn⟩|exact ⟨c4.keep rG nG,c4.keep rM nM,c4.keep rX nX⟩|exact ⟨c4.keep (c8.keep rG Vn) nG,c4.keep (c8.keep rM Vn) nM,c4.keep (c8.keep rX Vn) nX⟩)
  (first
   |(go_at_call 150;refine (gdrop_any (H.out.keep (Chg.drew (Chg.refl [] w6))) m.li).mono ?_;rintro e w4 ⟨rfl,h4,c4⟩))
 all_goals
  have cT:=Chg.trans (Chg.drew (Chg.refl [a,b] w6)) c4
  exact Tz147
set_option maxHeartbeats 4000000 in
theorem ghear_11 {W:World} {g a b S N:Nat} {s:Sta} (m:Ms) (g3:mg m=true) (g4:Z1 m.kd=true) (nx:Int) (hnx:nx=tb m.kd (Qn s.1 m.li).st) (n11:nx=11) (w:World) (h:Agt W w g a b S N s) (hu:s.2≤1000000000) (hT:Tabs W):Calls Tryz.prog 93 #[.pointer (some ⟨g,0,none⟩),.agg (msc m)] w (AgRet W w g a b S N (hearF S N s m).1 (fun v=>.tuple #[v,.int .i64 (hearF S N s m).2.2]) (hearF S N s m).2.1):=by
 have H:=Vh h
 have rG:=h.2.1
 have CW:=Vh (Chg.refl [a,b] w)
 clear h
 have HN:=Vh (H.out.new2 (k:=w.heap.size) (Nat.le_refl _))
 have hf:=fun W' hW=>YR (w:=W') (s:=s) (W:=W) (g:=g) (a:=a) (b:=b) (S:=S) (N:=N) hW m.li
 have hsa:=Qam H.out.sane m.li
 have hg:(mg m&&Z1 m.kd)=true:=by simp [g3,g4]
 have n0:¬nx=0:=by omega
 rw [show hearF S N s m=(Qbz S N s m nx,(Z8 m.kd (Qn s.1 m.li) nx,0)) by unfold hearF;rw [if_pos hg,←hnx,if_neg n0]]
 have n0':(nx==0)=false:=by simp [n0]
 have n1':(nx==10)=false:=by simp;omega
 have n2':(nx==11)=true:=by simp [n11]
 rw [show Qbz S N s m nx=s by unfold Qbz;rw [if_neg (by omega),if_pos n11]]
 clear hg n0 n11
 generalize Qn s.1 m.li=x at hf hnx hsa
 go_enter Tryz.func93,Tryz.ntmps93
 try dsimp only [List.append]
 go_wp2_with fail
 refine JF (w:=w) (b1:=w.heap.size) (x1:=.cells (msc m) 38 (0,0)) Cz0 (by simp [*]) fun w1 C1 rM=>?_
 have oM:=old rM
 refine (Qbj m _ g3 w1 (hT.1.keep (H.out.1.1.trans C1) (by simp))).mono ?_
 rintro e w3 ⟨rfl,c3⟩
 replace rM:=c3.keep rM Vn
 have C3:=C1.trans c3
 replace H:=Vh (H.out.keep C3)
 replace CW:=Vh (Zp (a:=a) (b:=b) C3)
 have nM:=H.out.new2 (k:=w.heap.size)
 clear C1 c3 C3 oM nM
 have rG:=H.out.2.1
 have oM:=old rM
 go_upto_region 3 with (go_at_call 149;refine (Qbi _ _ g4 _).mono ?_;rintro e w' ⟨rfl,rfl⟩)
 go_cut [6,7] (fun p q wx=>∃pX,p=.pointer (some ⟨pX,0,none⟩)∧q=.bool (Xt s.1 m.li)∧wx.heap[pX]? =some (.cells (slc x) 54 (0,0))∧Chg [] w3 wx∧w3.heap.size≤pX)
 case first=>
  exact Tz11
 case rest=>
 obtain ⟨pX,rfl,rfl,rX,c5,lX⟩:=hcut
 have nX:=H.out.new2 lX
 generalize hw5:wc=w5 at *
 clear hw5
 replace rM:=c5.keep rM Vn
 have nM:w.heap.size∉[a,b]:=HN.out
 replace H:=Vh (H.out.keep c5)
 replace CW:=Vh (CW.out.trans (Zp c5))
 clear c5
 have rG:=H.out.2.1
 have oM:=old rM
 have oX:=old rX
 have nG:=H.out.2.2.2.1
 obtain ⟨Kd,hKd,hKd2⟩:∃K:Nat,K<15∧m.kd=K:=by simp [Z1] at g4;exact ⟨m.kd.toNat,by omega,by omega⟩
 obtain ⟨Ks,hKs,hKs2⟩:∃K:Nat,K<10∧x.st=K:=⟨x.st.toNat,by omega,by omega⟩
 have hcell:=tb_cell Kd Ks hKd hKs
 rw [←hKd2,←hKs2,←hnx] at hcell
 clear hnx
 obtain ⟨tT,fT,rT⟩:=hT.2.keep H.out.1.1 (by simp)
 have k1:(Kd:Int)<15:=by omega
 have k2:(Ks:Int)<10:=by omega
 have k3:(0:Int)≤(Kd:Int):=by omega
 have k4:(0:Int)≤(Ks:Int):=by omega
 go_wp2_with fail
 go_quiet (fail)
 clear hKd2 hKs2
 have cD:Chg [] w5 (w5.drewN nq):=Chg.drewN (Chg.refl [] w5) nq
 generalize w5.drewN nq=w6 at cD ⊢
 replace H:=Vh (H.out.keep cD)
 replace CW:=Vh (CW.out.trans (Zp cD))
 replace rM:=cD.keep rM Vn
 replace rX:=cD.keep rX Vn
 clear cD
 have rG:=H.out.2.1
 have oM:=old rM
 have oX:=old rX
 clear rT
 exact Tz83
set_option maxHeartbeats 4000000 in
theorem ghear_s {W:World} {g a b S N:Nat} {s:Sta} (m:Ms) (g3:mg m=true) (g4:Z1 m.kd=true) (nx:Int) (hnx:nx=tb m.kd (Qn s.1 m.li).st) (n0:¬nx=0) (n10:¬nx=10) (n11:¬nx=11) (w:World) (h:Agt W w g a b S N s) (hu:s.2≤1000000000) (hT:Tabs W):Calls Tryz.prog 93 #[.pointer (some ⟨g,0,none⟩),.agg (msc m)] w (AgRet W w g a b S N (hearF S N s m).1 (fun v=>.tuple #[v,.int .i64 (hearF S N s m).2.2]) (hearF S N s m).2.1):=by
 have H:=Vh h
 have rG:=h.2.1
 have CW:=Vh (Chg.refl [a,b] w)
 clear h
 have HN:=Vh (H.out.new2 (k:=w.heap.size) (Nat.le_refl _))
 have hf:=fun W' hW=>YR (w:=W') (s:=s) (W:=W) (g:=g) (a:=a) (b:=b) (S:=S) (N:=N) hW m.li
 have hsa:=Qam H.out.sane m.li
 have hg:(mg m&&Z1 m.kd)=true:=by simp [g3,g4]
 rw [show hearF S N s m=(Qbz S N s m nx,(Z8 m.kd (Qn s.1 m.li) nx,0)) by unfold hearF;rw [if_pos hg,←hnx,if_neg n0]]
 have n0':(nx==0)=false:=by simp [n0]
 have n1':(nx==10)=false:=by simp [n10]
 have n2':(nx==11)=false:=by simp [n11]
 have e1:Qbz S N s m nx=setS S N s m.li nx (Yg m (Qn s.1 m.li) nx) (Qcq _ _ _):=by unfold Qbz;rw [if_neg n10,if_neg n11]
 rw [e1]
 clear e1 hg n0 n10 n11
 generalize Qn s.1 m.li=x at hf hnx hsa
 go_enter Tryz.func93,Tryz.ntmps93
 try dsimp only [List.append]
 go_wp2_with fail
 refine JF (w:=w) (b1:=w.heap.size) (x1:=.cells (msc m) 38 (0,0)) Cz0 (by simp [*]) fun w1 C1 rM=>?_
 have oM:=old rM
 refine (Qbj m _ g3 w1 (hT.1.keep (H.out.1.1.trans C1) (by simp))).mono ?_
 rintro e w3 ⟨rfl,c3⟩
 replace rM:=c3.keep rM Vn
 have C3:=C1.trans c3
 replace H:=Vh (H.out.keep C3)
 replace CW:=Vh (Zp (a:=a) (b:=b) C3)
 have nM:=H.out.new2 (k:=w.heap.size)
 clear C1 c3 C3 oM nM
 have rG:=H.out.2.1
 have oM:=old rM
 go_upto_region 3 with (go_at_call 149;refine (Qbi _ _ g4 _).mono ?_;rintro e w' ⟨rfl,rfl⟩)
 go_cut [6,7] (fun p q wx=>∃pX,p=.pointer (some ⟨pX,0,none⟩)∧q=.bool (Xt s.1 m.li)∧wx.heap[pX]? =some (.cells (slc x) 54 (0,0))∧Chg [] w3 wx∧w3.heap.size≤pX)
 case first=>
  exact Tz11
 case rest=>
 obtain ⟨pX,rfl,rfl,rX,c5,lX⟩:=hcut
 have nX:=H.out.new2 lX
 generalize hw5:wc=w5 at *
 clear hw5
 replace rM:=c5.keep rM Vn
 have nM:w.heap.size∉[a,b]:=HN.out
 replace H:=Vh (H.out.keep c5)
 replace CW:=Vh (CW.out.trans (Zp c5))
 clear c5
 have rG:=H.out.2.1
 have oM:=old rM
 have oX:=old rX
 have nG:=H.out.2.2.2.1
 obtain ⟨Kd,hKd,hKd2⟩:∃K:Nat,K<15∧m.kd=K:=by simp [Z1] at g4;exact ⟨m.kd.toNat,by omega,by omega⟩
 obtain ⟨Ks,hKs,hKs2⟩:∃K:Nat,K<10∧x.st=K:=⟨x.st.toNat,by omega,by omega⟩
 have hcell:=tb_cell Kd Ks hKd hKs
 rw [←hKd2,←hKs2,←hnx] at hcell
 clear hnx
 obtain ⟨tT,fT,rT⟩:=hT.2.keep H.out.1.1 (by simp)
 have k1:(Kd:Int)<15:=by omega
 have k2:(Ks:Int)<10:=by omega
 have k3:(0:Int)≤(Kd:Int):=by omega
 have k4:(0:Int)≤(Ks:Int):=by omega
 go_wp2_with fail
 go_quiet (fail)
 clear hKd2 hKs2
 have cD:Chg [] w5 (w5.drewN nq):=Chg.drewN (Chg.refl [] w5) nq
 generalize w5.drewN nq=w6 at cD ⊢
 replace H:=Vh (H.out.keep cD)
 replace CW:=Vh (CW.out.trans (Zp cD))
 replace rM:=cD.keep rM Vn
 replace rX:=cD.keep rX Vn
 clear cD
 have rG:=H.out.2.1
 have oM:=old rM
 have oX:=old rX
 clear rT
 go_wp2_with fail
 go_region_held3 (fun w'=>w'.heap[g]? =some (.cells #[.pointer (some ⟨a,0,none⟩)] 206 (0,0))∧w'.heap[w.heap.size]? =some (.cells (msc m) 38 (0,0))∧w'.heap[pX]? =some (.cells (slc x) 54 (0,0))) (first |exact ⟨rG,rM,rX⟩|exact ⟨c8.keep rG Vn,c8.keep rM Vn,c8.keep rX Vn⟩|exact ⟨c4.keep rG nG,c4.keep rM nM,c4.keep rX nX⟩|exact ⟨c4.keep (c8.keep rG Vn) nG,c4.keep (c8.keep rM Vn) nM,c4.keep (c8.keep rX Vn) nX⟩)
  (first
   |(go_at_call 151;refine (gwords_any m x nx _).mono ?_;rintro e w8 ⟨rfl,c8⟩)
   |(go_at_call 140;refine (Qed (H.out.keep (Chg.trans (Chg.drew (Chg.refl [] w6)) c8)) hu m.li nx _ (Qcq m x nx)).mono ?_;rintro e w4 ⟨rfl,h4,c4⟩))
 all_goals
  have cT:=Chg.trans (Zp (Chg.trans (Chg.drew (Chg.refl [] w6)) c8)) c4
  exact Tz147
theorem ghear_any {W:World} {g a b S N:Nat} {s:Sta} (m:Ms) (w:World) (h:Agt W w g a b S N s) (hu:s.2≤1000000000) (hT:Tabs W):Calls Tryz.prog 93 #[.pointer (some ⟨g,0,none⟩),.agg (msc m)] w (AgRet W w g a b S N (hearF S N s m).1 (fun v=>.tuple #[v,.int .i64 (hearF S N s m).2.2]) (hearF S N s m).2.1):=by
 cases gg:(mg m&&Z1 m.kd)
 ·exact ghear_args m gg w h hu hT
 ·have g':=gg
  rw [Bool.and_eq_true] at g'
  by_cases n0:tb m.kd (Qn s.1 m.li).st=0
  ·exact ghear_0 m g'.1 g'.2 _ rfl n0 w h hu hT
  by_cases n10:tb m.kd (Qn s.1 m.li).st=10
  ·exact ghear_10 m g'.1 g'.2 _ rfl n10 w h hu hT
  by_cases n11:tb m.kd (Qn s.1 m.li).st=11
  ·exact ghear_11 m g'.1 g'.2 _ rfl n11 w h hu hT
  ·exact ghear_s m g'.1 g'.2 _ rfl n0 n10 n11 w h hu hT
end
section
attribute [local go_sem ↓] QA QQ QH Q8 QS QC Za QN Zs Zh Qm Ql heap_alloc Qo heap_setCell Qb ZF Z4 Z5 Z3 Zc ZB Zk ZI Zv ZM ZK ZN ZL
attribute [local go_sem] Qc Qa Qd Qj Qf Qe Qh Qi Qw ZE QZ Zq QO QG Q6 Q0 Q5 Zi Q9 QM QB QI Zj Q7 Qz QP Qt Qk Qs Qr Qq Qp Qg Zb Ze lit8 QF ZG Zr Zt ZC Zd Zy ZH Zz Qv ZA Zl Zm QE QD QR ZO JZ JY
attribute [local simp ↓] Qm Ql heap_alloc Qo heap_setCell Qb
attribute [local simp] Qc Qa Qd Qj Qf Qe Qh Qi Qw QB Qk Qs Qr Qq Qp Qg QF Qv QE QD QR QI JZ JY
def Tol (a b:Nat) (w:World) (A:Option Addr) (ms:List Ms):Prop:=Sl w 12 A ms.length (cat Ms.enc ms)∧∀x,A=some x→x.block∉[a,b]
section
variable {a b:Nat} {w w':World} {A:Option Addr} {ms:List Ms}
theorem Tol.keep (h:Tol a b w A ms) (hc:Chg [a,b] w w'):Tol a b w' A ms:=⟨h.1.chg hc h.2,h.2⟩
end
theorem gnew_ok (S N:Nat) (W w:World) (hc:Chg [] W w) (h:YQ S N):Calls Tryz.prog 99 #[.int .i64 S,.int .i64 N] w fun e w'=>∃g a b,e=.returned (.tuple #[.pointer (some ⟨g,0,none⟩),.int .i64 0])∧Agt W w' g a b S N (List.replicate (S*N) sltZ,0)∧Chg [] w w':=by
 go_enter Tryz.func99,Tryz.ntmps99
 try dsimp only [List.append]
 go_wp2_with fail
 refine (sys_new S N W w hc h).mono ?_
 rintro e w2 ⟨a,b,rfl,hs,c2⟩
 have HS:=Vh hs
 have HC:=Vh c2
 clear hs c2
 go_wp2_with fail
 go_ret2
 refine ⟨w2.heap.size,a,b,rfl,⟨HS.out.keep ((Chg.refl [] w2).alloc _),by simp,HS.out.1.size,HS.out.new2 (Nat.le_refl _),Sane.new _,by show (0:Int)≤0;omega⟩,HC.out.alloc _⟩
end
end Go.Proofs.YtadeoflkppiflaaGreatDoor
