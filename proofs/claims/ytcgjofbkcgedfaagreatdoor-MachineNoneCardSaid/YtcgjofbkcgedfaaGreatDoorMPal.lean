/- Texts of the walk, one behind the other: Pre Prf Mgf Psa Psb Pua Mcf Prg. No condition. -/
import Derived.Test.YtcgjofbkcgedfaaGreatDoorMPaa
import Derived.Test.YtcgjofbkcgedfaaGreatDoorMPai
import Derived.Test.YtcgjofbkcgedfaaGreatDoorMPaj
import Derived.Test.YtcgjofbkcgedfaaGreatDoorMPak
import Derived.BigQuiet
import Derived.Deep.Cut
import Derived.Deep.CutBlock
import Derived.Deep.CutRange
import Derived.Deep.DeepCutAuto
import Derived.Deep.QuietTactic
import Derived.Deep.RegionHeld3
import Derived.Deep.RegionWith
namespace Go.Proofs.YtcgjofbkcgedfaaGreatDoor
open Go.RowKit
set_option linter.unusedVariables false
set_option maxHeartbeats 1000000
section
structure MDid where
 v:Int
 hit:Bool
 m:Ms
 e:Int
def did0:MDid:=⟨0,false,msZ,0⟩
def didE (e:Int):MDid:=⟨0,false,msZ,e⟩
def lnG (X:List Int) (i:Nat):List Int:=if (ln X i).length=8 then ln X i else zl8
theorem Qa8 (X:List Int) (i:Nat):(lnG X i).length=8:=by unfold lnG;split<;>first |assumption|rfl
theorem lnG_eq {X:List Int} {i:Nat} (h:(ln X i).length=8):lnG X i=ln X i:=by unfold lnG;rw [if_pos h]
def Xp (c:Cg) (S:Mst) (k:Int):Option Pt:=if inB k c.co=true then S.ps[k.toNat]? else none
def Mst.put (S:Mst) (k:Int) (x:Pt):Mst:=⟨S.ps.set k.toNat x,S.en,S.es,S.xs⟩
def loadM (c:Cg) (S:Mst) (k li wd:Int):Mst×MDid:=
 match Xp c S k with
 |none=>(S,did0)
 |some x=>if inB li c.li=true then (S.put k {x with s:=(loadF c.se c.wa x.s li wd).1,up:=x.up++(loadF c.se c.wa x.s li wd).2.2.2},⟨(loadF c.se c.wa x.s li wd).2.1,(loadF c.se c.wa x.s li wd).2.2.1,msZ,0⟩) else (S,did0)
def storeM (c:Cg) (S:Mst) (k li wd v:Int):Mst×MDid:=
 match Xp c S k with
 |none=>(S,did0)
 |some x=>if inB li c.li=true then (S.put k {x with s:=(storeF c.se c.wa x.s li wd v).1,up:=x.up++(storeF c.se c.wa x.s li wd v).2.2},⟨0,(storeF c.se c.wa x.s li wd v).2.1,msZ,0⟩) else (S,did0)
def reachM (c:Cg) (S:Mst) (k li:Int):Mst×MDid:=
 match Xp c S k with
 |none=>(S,did0)
 |some x=>if inB li c.li=true then (if Qee x.s.1 li=true then (S,⟨0,true,msZ,0⟩) else (S.put k {x with s:=(reachF c.se c.wa x.s li).1,up:=x.up++(reachF c.se c.wa x.s li).2},did0)) else (S,did0)
def flushM (c:Cg) (S:Mst) (k li kd:Int):Mst×MDid:=
 match Xp c S k with
 |none=>(S,didE 1)
 |some x=>if inB li c.li=true∧(kd=4∨kd=5) then (S.put k {x with up:=x.up++[ms4 kd li false false]},did0) else (S,didE 1)
def upM (c:Cg) (S:Mst) (k:Int):Mst×MDid:=
 match Xp c S k with
 |none=>(S,didE 1)
 |some x=>match x.up with
  |[]=>(S,didE 14)
  |m::rest=>match S.en[m.li.toNat]? with
   |none=>(S,did0)
   |some e=>if (askE (Qce e (lnG S.X m.li.toNat) (Qa8 _ _)) k m).2=0 then (⟨Y9 (S.ps.set k.toNat {x with up:=rest}) (askE (Qce e (lnG S.X m.li.toNat) (Qa8 _ _)) k m).1.2,S.en.set m.li.toNat (askE (Qce e (lnG S.X m.li.toNat) (Qa8 _ _)) k m).1.1,S.es,S.xs⟩,did0) else (S,didE (askE (Qce e (lnG S.X m.li.toNat) (Qa8 _ _)) k m).2)
def answerM (c:Cg) (S:Mst) (k:Int):Mst×MDid:=
 match Xp c S k with
 |none=>(S,didE 1)
 |some x=>match x.an with
  |[]=>(S,didE 14)
  |m::rest=>match S.en[m.li.toNat]? with
   |none=>(S,did0)
   |some e=>if (ansE e k m).2=0 then (⟨Y9 (S.ps.set k.toNat {x with an:=rest}) (ansE e k m).1.2,S.en.set m.li.toNat (ansE e k m).1.1,S.es,S.xs⟩,did0) else (S.put k {x with an:=rest},didE (ansE e k m).2)
def hearM (c:Cg) (S:Mst) (k:Int):Mst×MDid:=
 match Xp c S k with
 |none=>(S,didE 1)
 |some x=>match x.dn with
  |[]=>(S,didE 14)
  |m::rest=>if (hearF c.se c.wa x.s m).2.2=0 then (S.put k {x with s:=(hearF c.se c.wa x.s m).1,an:=x.an++(hearF c.se c.wa x.s m).2.1,dn:=rest},⟨0,false,m,0⟩) else (S.put k {x with s:=(hearF c.se c.wa x.s m).1,dn:=rest},didE (hearF c.se c.wa x.s m).2.2)
def pushM (c:Cg) (S:Mst) (li:Int):Mst×MDid:=
 if inB li c.li=true then (match S.en[li.toNat]? with
  |none=>(S,did0)
  |some e=>if JJ e=true then (if Qai c S.es li.toNat e=0 then (⟨Y9 S.ps (Xt (bitM e.by_) (ms4 14 li false false)),S.en.set li.toNat ((Jf e).setDi false),Jl c S.es li.toNat e,S.xs⟩,did0) else (⟨S.ps,S.en,Jl c S.es li.toNat e,S.xs⟩,didE (Qai c S.es li.toNat e))) else (S,didE 16)) else (S,didE 1)
def evictM (c:Cg) (S:Mst) (k li:Int):Mst×MDid:=
 match Xp c S k with
 |none=>(S,didE 1)
 |some x=>if inB li c.li=true then (S.put k {x with s:=(evictF c.se c.wa x.s li).1,up:=x.up++(evictF c.se c.wa x.s li).2.1},didE (evictF c.se c.wa x.s li).2.2) else (S,didE 1)
def dropM (c:Cg) (S:Mst) (li:Int):Mst×MDid:=
 if inB li c.li=true then (match S.en[li.toNat]? with
  |none=>(S,did0)
  |some e=>if Qdb e=true then (S,didE 16) else (if Qai c S.es li.toNat e=0 then (⟨S.ps,S.en.set li.toNat enE,Jl c S.es li.toNat e,S.xs⟩,did0) else (⟨S.ps,S.en,Jl c S.es li.toNat e,S.xs⟩,didE (Qai c S.es li.toNat e)))) else (S,didE 1)
def drainM (c:Cg) (S:Mst) (li:Int):Mst×MDid:=
 if inB li c.li=true then (⟨S.ps,S.en,JW S.es li,JO S.xs S.es li⟩,didE (Qbe S.es li)) else (S,didE 1)
def failM (c:Cg) (S:Mst):Mst:=⟨List.replicate c.co (pt0 c),List.replicate c.li enE,[],J4 S.X c.vo⟩
structure PtI (c:Cg) (n:Nat) (x:Pt):Prop where
 aj:AJ c.se c.wa c.li x.s
 us:x.s.2≤n
 up:x.up.length≤n
 an:x.an.length≤n
 dn:x.dn.length≤n
 fu:∀m∈x.up,mg m=true∧Qef m.kd=true∧m.li<c.li
 fa:∀m∈x.an,mg m=true∧Qbg m.kd=true∧m.li<c.li
 fd:∀m∈x.dn,mg m=true∧Y1 m.kd=true∧m.li<c.li
theorem PtI.mono {c:Cg} {n n':Nat} {x:Pt} (h:PtI c n x) (hn:n≤n'):PtI c n' x:=
 ⟨h.aj,by have:=h.us;omega,Nat.le_trans h.up hn,Nat.le_trans h.an hn,Nat.le_trans h.dn hn,h.fu,h.fa,h.fd⟩
structure Inv (c:Cg) (n:Nat) (S:Mst) (cur:Nat→List Int):Prop where
 ok:c.Ok
 co:S.ps.length=c.co
 li:S.en.length=c.li
 xs:S.xs.length=c.li*8
 lie:Lie c.li S.es
 pt:∀j,j<c.co→PtI c n (atP S.ps j)
 ln:∀i e,S.en[i]? =some e→LinI c.co S.ps (cur i) (ln S.X i) i e
theorem mg_line {m:Ms} (h:mg m=true):0≤m.li∧m.li≤63∧Qc4 m.li=true:=by
 simp only [mg,Bool.and_eq_true] at h
 have h2:=h.1.1.1.2
 have:=h2
 simp [Qc4] at this
 exact ⟨this.1,this.2,h2⟩
section
variable {c:Cg} {n:Nat} {S:Mst} {cur:Nat→List Int} (h:Inv c n S cur)
include h
theorem Inv.lX:S.X.length=c.li*8:=Qc2 _ _ h.xs h.lie
theorem Inv.ln8 {i:Nat} (hi:i<c.li):(Go.Proofs.YtcgjofbkcgedfaaGreatDoor.ln S.X i).length=8:=Qh6 _ _ (JH h.lX hi)
theorem Inv.mono {n':Nat} (hn:n≤n'):Inv c n' S cur:=⟨h.ok,h.co,h.li,h.xs,h.lie,fun j hj=>(h.pt j hj).mono hn,h.ln⟩
theorem Inv.port {k:Int} {x:Pt} (hp:Xp c S k=some x):∃j:Nat,k=(j:Int)∧j<c.co∧S.ps[j]? =some x∧atP S.ps j=x∧PtI c n x∧inB k c.co=true:=by
 unfold Xp at hp
 split at hp
 ·rename_i hb
  have hb':=hb
  unfold inB at hb
  simp at hb
  obtain ⟨j,rfl⟩:∃j:Nat,k=(j:Int):=⟨k.toNat,by omega⟩
  rw [Int.toNat_natCast] at hp
  have:=Jv hp
  exact ⟨j,rfl,by omega,hp,this,this▸h.pt j (by omega),hb'⟩
 ·cases hp
theorem Inv.portNone {k:Int} (hp:Xp c S k=none):inB k c.co=false:=by
 unfold Xp at hp
 split at hp
 ·rename_i hb
  unfold inB at hb
  simp at hb
  rw [List.getElem?_eq_none_iff,h.co] at hp
  omega
 ·rename_i hb;simpa using hb
theorem Inv.entry {i:Nat} (hi:i<c.li):∃e,S.en[i]? =some e∧LinI c.co S.ps (cur i) (Go.Proofs.YtcgjofbkcgedfaaGreatDoor.ln S.X i) i e:=
 ⟨_,List.getElem?_eq_getElem (by rw [h.li];exact hi),h.ln i _ (List.getElem?_eq_getElem (by rw [h.li];exact hi))⟩
theorem Inv.ag {j:Nat} {x:Pt} (hj:j<c.co) (hx:S.ps[j]? =some x) {s':Sta} {ms:List Ms} (ha:Asks c.li x.s s' ms) (haj:AJ c.se c.wa c.li s') (hu:s'.2≤x.s.2+1):Inv c (n+1) (S.put j {x with s:=s',up:=x.up++ms}) cur:=by
 have hk:=(Vg hx).1
 have e0:(S.put (j:Int) {x with s:=s',up:=x.up++ms}).ps=S.ps.set j {x with s:=s',up:=x.up++ms}:=by unfold Mst.put;rw [Int.toNat_natCast]
 have hpx:=Jv hx▸h.pt j hj
 have hlen:ms.length≤1∧∀m∈ms,mg m=true∧Qef m.kd=true∧m.li<c.li:=by
  rcases ha with ⟨rfl,_⟩|⟨li,h0,hn,ha,_⟩
  ·exact ⟨by simp,fun m hm=>by cases hm⟩
  ·have:=h.ok.li64
   obtain ⟨m,rfl,h1,h2,h3,h4⟩:=ha.msg (by unfold Qc4;simp;omega)
   exact ⟨by simp,fun a hm=>by rw [List.mem_singleton] at hm;subst hm;exact ⟨h4,h3,by omega⟩⟩
 refine ⟨h.ok,?_,h.li,h.xs,h.lie,fun p hp=>?_,fun i e he=>?_⟩
 ·rw [e0,List.length_set];exact h.co
 ·rw [e0,Yz hk]
  split
  ·refine ⟨haj,?_,?_,Nat.le_succ_of_le hpx.an,Nat.le_succ_of_le hpx.dn,?_,hpx.fa,hpx.fd⟩
   ·have:=hpx.us
    show s'.2≤((n+1:Nat):Int)
    omega
   ·show (x.up++ms).length≤n+1
    rw [List.length_append]
    have:=hpx.up
    omega
   ·intro m hm
    rcases List.mem_append.1 hm with h1|h1
    ·exact hpx.fu m h1
    ·exact hlen.2 m h1
  ·exact (h.pt p hp).mono (Nat.le_succ n)
 ·rw [e0]
  exact (h.ln i e he).ag h.ok.li64 hx ha
theorem Inv.write {j:Nat} {x:Pt} (hj:j<c.co) (hx:S.ps[j]? =some x) {s':Sta} {li:Nat} (l':List Int) (hs:(vw x.s li).1=2∨(vw x.s li).1=3) (hv:vw s' li=(3,l')) (ho:∀li',li'≠(li:Int)→vw s' li'=vw x.s li') (haj:AJ c.se c.wa c.li s') (hu:s'.2≤x.s.2+1):
 Inv c (n+1) (S.put j {x with s:=s'}) (fun i=>if i=li then l' else cur i)∧(vw x.s li).2=cur li:=by
 have hk:=(Vg hx).1
 have e0:(S.put (j:Int) {x with s:=s'}).ps=S.ps.set j {x with s:=s'}:=by unfold Mst.put;rw [Int.toNat_natCast]
 have hpx:=Jv hx▸h.pt j hj
 refine ⟨⟨h.ok,?_,h.li,h.xs,h.lie,fun p hp=>?_,fun i e he=>?_⟩,?_⟩
 ·rw [e0,List.length_set];exact h.co
 ·rw [e0,Yz hk]
  split
  ·refine ⟨haj,?_,Nat.le_succ_of_le hpx.up,Nat.le_succ_of_le hpx.an,Nat.le_succ_of_le hpx.dn,hpx.fu,hpx.fa,hpx.fd⟩
   have:=hpx.us
   show s'.2≤((n+1:Nat):Int)
   omega
  ·exact (h.pt p hp).mono (Nat.le_succ n)
 ·rw [e0]
  have hl:=h.ln i e he
  by_cases hi:i=li
  ·subst hi
   rw [if_pos rfl]
   exact (hl.write hj hx l' hs hv).1
  ·rw [if_neg hi]
   exact hl.writeOff hx (ho i (by omega))
 ·have hli:li<c.li:=by
   have:=(hpx.aj.line (li:=(li:Int)) (by omega)).2.1
   omega
  obtain ⟨e,he,hl⟩:=h.entry hli
  exact (hl.write hj hx l' hs hv).2
theorem Inv.flush {j:Nat} {x:Pt} (hj:j<c.co) (hx:S.ps[j]? =some x) {li:Int} (hl:inB li c.li=true) {kd:Int} (hkd:kd=4∨kd=5):Inv c (n+1) (S.put j {x with up:=x.up++[ms4 kd li false false]}) cur∧mg (ms4 kd li false false)=true:=by
 have hk:=(Vg hx).1
 have e0:(S.put (j:Int) {x with up:=x.up++[ms4 kd li false false]}).ps=S.ps.set j {x with up:=x.up++[ms4 kd li false false]}:=by unfold Mst.put;rw [Int.toNat_natCast]
 have hpx:=Jv hx▸h.pt j hj
 have h64:=h.ok.li64
 unfold inB at hl
 simp at hl
 have hlB:Qc4 li=true:=by unfold Qc4;simp;omega
 have hmg:mg (ms4 kd li false false)=true:=by rcases hkd with rfl|rfl<;>simp [mg,ms4,Qc5,hlB]
 refine ⟨⟨h.ok,?_,h.li,h.xs,h.lie,fun p hp=>?_,fun i e he=>?_⟩,hmg⟩
 ·rw [e0,List.length_set];exact h.co
 ·rw [e0,Yz hk]
  split
  ·refine ⟨hpx.aj,?_,?_,Nat.le_succ_of_le hpx.an,Nat.le_succ_of_le hpx.dn,?_,hpx.fa,hpx.fd⟩
   ·have:=hpx.us
    show x.s.2≤((n+1:Nat):Int)
    omega
   ·show (x.up++[ms4 kd li false false]).length≤n+1
    rw [List.length_append]
    have:=hpx.up
    simp;omega
   ·intro m hm
    rcases List.mem_append.1 hm with h1|h1
    ·exact hpx.fu m h1
    ·rw [List.mem_singleton] at h1
     subst h1
     exact ⟨hmg,by rcases hkd with rfl|rfl<;>rfl,hl.2⟩
  ·exact (h.pt p hp).mono (Nat.le_succ n)
 ·rw [e0]
  refine (h.ln i e he).same fun p hp=>?_
  rw [Yz hk]
  split
  ·rename_i hpj
   subst hpj
   rw [Jv hx]
   refine ⟨rfl,rfl,?_,rfl,rfl⟩
   unfold upL
   rw [List.filter_append]
   have:[ms4 kd li false false].filter (fun m=>m.li==(i:Int)&&decide (m.kd≤3))=[]:=by rcases hkd with rfl|rfl<;>simp [ms4]
   rw [this,List.append_nil]
  ·exact ⟨rfl,rfl,rfl,rfl,rfl⟩
omit h in
theorem PtI.sent {c:Cg} {n:Nat} {x:Pt} (h:PtI c n x) {a:Ms} (ha:mg a=true∧Y1 a.kd=true∧a.li<c.li):PtI c (n+1) {x with dn:=x.dn++[a]}:=by
 refine ⟨h.aj,?_,Nat.le_succ_of_le h.up,Nat.le_succ_of_le h.an,?_,h.fu,h.fa,?_⟩
 ·have:=h.us
  show x.s.2≤((n+1:Nat):Int)
  omega
 ·show (x.dn++[a]).length≤n+1
  rw [List.length_append]
  have:=h.dn
  simp;omega
 ·intro m hm
  rcases List.mem_append.1 hm with h1|h1
  ·exact h.fd m h1
  ·rw [List.mem_singleton] at h1;subst h1;exact ha
end
theorem Qf3 {c:Cg} {n:Nat} {ps:List Pt} (hl:ps.length=c.co) (hp:∀j,j<c.co→PtI c n (atP ps j)) {o:Mk} {a:Ms} (ho:∀j:Nat,j<8→hasM o j=true→j<c.co) (ha:mg a=true∧Y1 a.kd=true∧a.li<c.li):
 (Y9 ps (Xt o a)).length=c.co∧∀j,j<c.co→PtI c (n+1) (atP (Y9 ps (Xt o a)) j):=by
 obtain ⟨h1,h2⟩:=Qd0 o a ps (by rw [hl];exact ho)
 refine ⟨h1.trans hl,fun j hj=>?_⟩
 rw [h2 j (by omega)]
 split
 ·exact (hp j hj).sent ha
 ·exact (hp j hj).mono (Nat.le_succ n)
section
variable {c:Cg} {n:Nat} {S:Mst} {cur:Nat→List Int} (h:Inv c n S cur)
include h
theorem Inv.up {j:Nat} {x:Pt} (hj:j<c.co) (hx:S.ps[j]? =some x) {m:Ms} {rest:List Ms} (hu:x.up=m::rest):∃(i:Nat) (e:En),m.li=(i:Int)∧i<c.li∧S.en[i]? =some e∧
 ((e.bu≠0∧askE (Qce e (lnG S.X i) (Qa8 _ _)) j m=((enZ,[]),15))∨
  (e.bu=0∧∃o a e',askE (Qce e (lnG S.X i) (Qa8 _ _)) j m=((e',Xt o a),0)∧Qel m.li a∧(∀j:Nat,j<8→hasM o j=true→j<c.co)∧Inv c (n+1) ⟨Y9 (S.ps.set j {x with up:=rest}) (Xt o a),S.en.set i e',S.es,S.xs⟩ cur)):=by
 have hk:=(Vg hx).1
 have hpx:=Jv hx▸h.pt j hj
 obtain ⟨m1,m2,m3⟩:=hpx.fu m (by rw [hu];simp)
 obtain ⟨l1,l2,l3⟩:=mg_line m1
 obtain ⟨i,hi⟩:∃i:Nat,m.li=(i:Int):=⟨m.li.toNat,by omega⟩
 have hic:i<c.li:=by omega
 obtain ⟨e,he,hl⟩:=h.entry hic
 refine ⟨i,e,hi,hic,he,?_⟩
 have h8:=h.ln8 hic
 have hG:=lnG_eq h8
 by_cases hb:e.bu=0
 ·obtain ⟨o,a,e',q1,q2,q3,q4⟩:=LinI.up (X:=lnG S.X i) (by rw [hG];exact hl) h.ok.co8 h.co (Qa8 _ _) hb hx hu m2 m1 hi
  refine .inr ⟨hb,o,a,e',q1,q2,q3,?_⟩
  have hta:mg a=true∧Y1 a.kd=true∧a.li<c.li:=⟨q2.1,q2.2.1,by rw [q2.2.2.1];exact m3⟩
  have hp1:∀p,p<c.co→PtI c n (atP (S.ps.set j {x with up:=rest}) p):=by
   intro p hp
   rw [Yz hk]
   split
   ·refine ⟨hpx.aj,hpx.us,?_,hpx.an,hpx.dn,fun a ha=>hpx.fu a (by rw [hu];simp [show a∈rest from ha]),hpx.fa,hpx.fd⟩
    have:=hpx.up
    rw [hu] at this
    simp at this
    show rest.length≤n
    omega
   ·exact h.pt p hp
  obtain ⟨r1,r2⟩:=Qf3 (by rw [List.length_set];exact h.co) hp1 q3 hta
  refine ⟨h.ok,r1,by rw [List.length_set];exact h.li,h.xs,h.lie,r2,fun p ep hep=>?_⟩
  rw [List.getElem?_set] at hep
  split at hep
  ·rename_i hip
   subst hip
   split at hep
   ·injection hep with hep
    subst hep
    rw [hG] at q4
    exact q4
   ·cases hep
  ·rename_i hip
   exact LinI.upOff (h.ln p ep hep) h.co hx hu (by omega) q3 q2
 ·refine .inl ⟨hb,?_⟩
  have hh:e.he=true:=by
   cases hh:e.he
   ·have he':e=enE:=by
     have:=hl.good
     unfold JG at this
     rw [if_neg (by simp [hh])] at this
     simpa using this
    rw [he'] at hb;exact absurd rfl hb
   ·rfl
  unfold Qce
  rw [if_pos hh]
  unfold askE
  have harg:Qdt e j m=true:=by simp [Qdt,hl.good,Qb0 (show j<8 by have:=h.ok.co8;omega),m1,m2]
  rw [if_pos harg,if_pos hb]
theorem Inv.answer {j:Nat} {x:Pt} (hj:j<c.co) (hx:S.ps[j]? =some x) {m:Ms} {rest:List Ms} (hu:x.an=m::rest):∃(i:Nat) (e:En),m.li=(i:Int)∧i<c.li∧S.en[i]? =some e∧
 ∃o a e',ansE e j m=((e',Xt o a),0)∧Qel m.li a∧(∀j:Nat,j<8→hasM o j=true→j<c.co)∧Inv c (n+1) ⟨Y9 (S.ps.set j {x with an:=rest}) (Xt o a),S.en.set i e',S.es,S.xs⟩ cur:=by
 have hk:=(Vg hx).1
 have hpx:=Jv hx▸h.pt j hj
 obtain ⟨m1,m2,m3⟩:=hpx.fa m (by rw [hu];simp)
 obtain ⟨l1,l2,l3⟩:=mg_line m1
 obtain ⟨i,hi⟩:∃i:Nat,m.li=(i:Int):=⟨m.li.toNat,by omega⟩
 have hic:i<c.li:=by omega
 obtain ⟨e,he,hl⟩:=h.entry hic
 refine ⟨i,e,hi,hic,he,?_⟩
 obtain ⟨o,a,e',q1,q2,q3,q4⟩:=LinI.answer hl h.ok.co8 h.co hx hu m2 m1 hi
 refine ⟨o,a,e',q1,q2,q3,?_⟩
 have hta:mg a=true∧Y1 a.kd=true∧a.li<c.li:=⟨q2.1,q2.2.1,by rw [q2.2.2.1];exact m3⟩
 have hp1:∀p,p<c.co→PtI c n (atP (S.ps.set j {x with an:=rest}) p):=by
  intro p hp
  rw [Yz hk]
  split
  ·refine ⟨hpx.aj,hpx.us,hpx.up,?_,hpx.dn,hpx.fu,fun a ha=>hpx.fa a (by rw [hu];simp [show a∈rest from ha]),hpx.fd⟩
   have:=hpx.an
   rw [hu] at this
   simp at this
   show rest.length≤n
   omega
  ·exact h.pt p hp
 obtain ⟨r1,r2⟩:=Qf3 (by rw [List.length_set];exact h.co) hp1 q3 hta
 refine ⟨h.ok,r1,by rw [List.length_set];exact h.li,h.xs,h.lie,r2,fun p ep hep=>?_⟩
 rw [List.getElem?_set] at hep
 split at hep
 ·rename_i hip
  subst hip
  split at hep
  ·injection hep with hep
   subst hep
   exact q4
  ·cases hep
 ·rename_i hip
  exact LinI.answerOff (h.ln p ep hep) h.co hx hu (by omega) q3 q2
theorem Inv.hear {j:Nat} {x:Pt} (hj:j<c.co) (hx:S.ps[j]? =some x) {m:Ms} {rest:List Ms} (hd:x.dn=m::rest):tb m.kd (vw x.s m.li).1≠0∧(hearF c.se c.wa x.s m).2.2=0∧(hearF c.se c.wa x.s m).2.1.length≤1∧(∀a∈(hearF c.se c.wa x.s m).2.1,mg a=true)∧
 Inv c (n+1) (S.put j {x with s:=(hearF c.se c.wa x.s m).1,an:=x.an++(hearF c.se c.wa x.s m).2.1,dn:=rest}) cur:=by
 have hk:=(Vg hx).1
 have hpx:=Jv hx▸h.pt j hj
 obtain ⟨m1,m2,m3⟩:=hpx.fd m (by rw [hd];simp)
 obtain ⟨l1,l2,l3⟩:=mg_line m1
 obtain ⟨i,hi⟩:∃i:Nat,m.li=(i:Int):=⟨m.li.toNat,by omega⟩
 have hic:i<c.li:=by omega
 obtain ⟨e,he,hl⟩:=h.entry hic
 have ht:=hl.fits hj hx hpx.aj hd hi
 have hg:(mg m&&Y1 m.kd)=true:=by rw [m1,m2];rfl
 obtain ⟨a1,a2,_⟩:=hpx.aj.hearF hg m3 ht
 have hav:(Z0 m.kd (Qx x.s.1 m.li) (tb m.kd (vw x.s m.li).1)).length≤1∧∀a∈Z0 m.kd (Qx x.s.1 m.li) (tb m.kd (vw x.s m.li).1),mg a=true∧Qbg a.kd=true∧a.li<c.li:=by
  by_cases h14:m.kd=14
  ·rw [h14];exact ⟨Nat.zero_le _,fun a ha=>by cases ha⟩
  ·have hl:=(hpx.aj.line (tb_line ht h14)).2.2.1
   have hto:∀kd ke,((kd=6∧ke=false)∨kd=7)→mg (JL kd (Qx x.s.1 m.li) ke)=true∧Qbg (JL kd (Qx x.s.1 m.li) ke).kd=true∧(JL kd (Qx x.s.1 m.li) ke).li<c.li:=by
    intro kd ke hk
    unfold JL
    split
    ·refine ⟨?_,by rcases hk with ⟨rfl,_⟩|rfl<;>rfl,by show (Qx x.s.1 m.li).li<c.li;omega⟩
     rcases hk with ⟨rfl,rfl⟩|rfl<;>simp [mg,Qc5,mayD,mayK,hl,l3]
    ·refine ⟨?_,by rcases hk with ⟨rfl,_⟩|rfl<;>rfl,by show (Qx x.s.1 m.li).li<c.li;omega⟩
     rcases hk with ⟨rfl,rfl⟩|rfl<;>simp [mg,ms4,Qc5,mayD,mayK,hl,l3]
   unfold Z0
   split
   ·exact ⟨by simp,fun a ha=>by rw [List.mem_singleton] at ha;subst ha;exact hto 6 false (.inl ⟨rfl,rfl⟩)⟩
   ·split
    ·exact ⟨by simp,fun a ha=>by rw [List.mem_singleton] at ha;subst ha;exact hto 7 _ (.inr rfl)⟩
    ·exact ⟨by simp,fun a ha=>by cases ha⟩
 rw [show (hearF c.se c.wa x.s m).2.1=Z0 m.kd (Qx x.s.1 m.li) (tb m.kd (vw x.s m.li).1) by rw [a2]]
 refine ⟨ht,by rw [a2],hav.1,fun a ha=>(hav.2 a ha).1,?_⟩
 generalize hAV:Z0 m.kd (Qx x.s.1 m.li) (tb m.kd (vw x.s m.li).1)=av at hav
 have e0:(S.put (j:Int) {x with s:=(hearF c.se c.wa x.s m).1,an:=x.an++av,dn:=rest}).ps=S.ps.set j {x with s:=(hearF c.se c.wa x.s m).1,an:=x.an++av,dn:=rest}:=by unfold Mst.put;rw [Int.toNat_natCast]
 refine ⟨h.ok,?_,h.li,h.xs,h.lie,fun p hp=>?_,fun p ep hep=>?_⟩
 ·rw [e0,List.length_set];exact h.co
 ·rw [e0,Yz hk]
  split
  ·refine ⟨a1,?_,Nat.le_succ_of_le hpx.up,?_,?_,hpx.fu,?_,fun a ha=>hpx.fd a (by rw [hd];simp [show a∈rest from ha])⟩
   ·have:=(hearF_u (S:=c.se) (N:=c.wa) (s:=x.s) (m:=m)).2
    have:=hpx.us
    show (hearF c.se c.wa x.s m).1.2≤((n+1:Nat):Int)
    omega
   ·show (x.an++av).length≤n+1
    rw [List.length_append]
    have:=hpx.an
    omega
   ·have:=hpx.dn
    rw [hd] at this
    simp at this
    show rest.length≤n+1
    omega
   ·intro a ha
    rcases List.mem_append.1 ha with h1|h1
    ·exact hpx.fa a h1
    ·exact hav.2 a h1
  ·exact (h.pt p hp).mono (Nat.le_succ n)
 ·rw [e0,←hAV]
  exact (h.ln p ep hep).hear hx hpx.aj hd hg m3 ht
theorem Inv.saved {i:Nat} (hi:i<c.li) (e:En):(Qai c S.es i e=0∨Qai c S.es i e=13)∧(Qai c S.es i e≠0→Jl c S.es i e=S.es)∧(Qai c S.es i e=0→Lie c.li (Jl c S.es i e)∧over S.xs (Jl c S.es i e)=if e.di=true then JN S.X i e.l else S.X):=by
 have h0:(0:Int)≤(i:Int)∧(i:Int)<(c.li:Int):=by omega
 unfold Qai Jl Qdw pushEs
 rw [if_pos h0,if_pos h0]
 cases hd:e.di
 ·simp only [Bool.false_eq_true,if_false]
  exact ⟨.inl trivial,fun h=>absurd rfl h,fun _=>⟨h.lie,rfl⟩⟩
 ·simp only [if_true]
  by_cases hr:c.qu≤S.es.length
  ·rw [if_pos hr,if_pos hr]
   exact ⟨.inr rfl,fun _=>rfl,fun h=>absurd h (by decide)⟩
  ·rw [if_neg hr,if_neg hr]
   refine ⟨.inl rfl,fun h=>absurd rfl h,fun _=>⟨h.lie.snoc (by rw [Int.toNat_natCast];exact hi),?_⟩⟩
   rw [Qh3,Int.toNat_natCast];rfl
theorem Inv.push {i:Nat} {e:En} (hi:i<c.li) (he:S.en[i]? =some e) (hr:JJ e=true):isC e.by_=true∧e.by_<c.co∧mg (ms4 14 i false false)=true∧(Qai c S.es i e=0→Inv c (n+1) ⟨Y9 S.ps (Xt (bitM e.by_) (ms4 14 i false false)),S.en.set i ((Jf e).setDi false),Jl c S.es i e,S.xs⟩ cur):=by
 have hl:=h.ln i e he
 have h64:=h.ok.li64
 have fit:=push_fit hr
 have hh:e.he=true:=fit.1
 have hlB:Qc4 (i:Int)=true:=by unfold Qc4;simp;omega
 have hmg:mg (ms4 14 (i:Int) false false)=true:=by simp [mg,ms4,Qc5,hlB]
 have hbu:e.bu=4∨e.bu=5:=by simp only [JJ,Bool.and_eq_true,Bool.or_eq_true,beq_iff_eq] at hr;exact hr.1.2
 have hC:isC e.by_=true:=by
  rcases ((YE hh).1 hl.good).2 with ⟨h1,_⟩|⟨_,h1,_⟩|⟨_,h1⟩
  ·omega
  ·exact h1.1
  ·exact h1.1
 refine ⟨hC,hl.lo.2.1,hmg,fun hv=>?_⟩
 obtain ⟨_,_,s3⟩:=h.saved hi e
 obtain ⟨s4,s5⟩:=s3 hv
 obtain ⟨p,hp,hpe⟩:=JU hC
 have hob:∀j:Nat,j<8→hasM (bitM e.by_) j=true→j<c.co:=by
  intro j _ hj
  rw [XX _ hC,decide_eq_true_eq] at hj
  have:=hl.lo.2.1
  omega
 obtain ⟨r1,r2⟩:=Qf3 h.co h.pt hob (a:=ms4 14 (i:Int) false false) ⟨hmg,rfl,by show (i:Int)<c.li;omega⟩
 refine ⟨h.ok,r1,by rw [List.length_set];exact h.li,h.xs,s4,r2,fun q eq heq=>?_⟩
 have eX:(Mst.mk (Y9 S.ps (Xt (bitM e.by_) (ms4 14 (i:Int) false false))) (S.en.set i ((Jf e).setDi false)) (Jl c S.es i e) S.xs).X=if e.di=true then JN S.X i e.l else S.X:=s5
 rw [eX]
 rw [List.getElem?_set] at heq
 split at heq
 ·rename_i hiq
  subst hiq
  split at heq
  ·injection heq with heq
   subst heq
   refine LinI.sent (hl.push hr ?_) h.co hob (.inr rfl)
   split
   ·exact Qeq _ _ _ (JH h.lX hi) e.h
   ·rename_i hd
    exact hl.mem1 hh (by simpa using hd)
  ·cases heq
 ·rename_i hiq
  refine LinI.sent ((h.ln q eq heq).mem ?_) h.co hob (.inr rfl)
  split
  ·exact Qdg _ _ _ _ (JH h.lX hi) e.h hiq
  ·rfl
theorem Inv.drop {i:Nat} {e:En} (hi:i<c.li) (he:S.en[i]? =some e) (hr:Qdb e=false) (hv:Qai c S.es i e=0):Inv c (n+1) ⟨S.ps,S.en.set i enE,Jl c S.es i e,S.xs⟩ cur:=by
 have hl:=h.ln i e he
 have hh:e.he=true:=by
  unfold Qdb at hr
  simp only [Bool.or_eq_false_iff,Bool.not_eq_false'] at hr
  exact hr.1.1.1
 obtain ⟨_,_,s3⟩:=h.saved hi e
 obtain ⟨s4,s5⟩:=s3 hv
 refine ⟨h.ok,h.co,by rw [List.length_set];exact h.li,h.xs,s4,fun j hj=>(h.pt j hj).mono (Nat.le_succ n),fun q eq heq=>?_⟩
 have eX:(Mst.mk S.ps (S.en.set i enE) (Jl c S.es i e) S.xs).X=if e.di=true then JN S.X i e.l else S.X:=s5
 rw [eX]
 rw [List.getElem?_set] at heq
 split at heq
 ·rename_i hiq
  subst hiq
  split at heq
  ·injection heq with heq
   subst heq
   refine hl.drop h.ok.co1 hr ?_
   split
   ·exact Qeq _ _ _ (JH h.lX hi) e.h
   ·rename_i hd
    exact hl.mem1 hh (by simpa using hd)
  ·cases heq
 ·rename_i hiq
  refine (h.ln q eq heq).mem ?_
  split
  ·exact Qdg _ _ _ _ (JH h.lX hi) e.h hiq
  ·rfl
theorem Inv.drain (li:Int):Inv c (n+1) ⟨S.ps,S.en,JW S.es li,JO S.xs S.es li⟩ cur:=by
 have hx:Lie c.li (JW S.es li)∧(JO S.xs S.es li).length=c.li*8∧over (JO S.xs S.es li) (JW S.es li)=S.X:=by
  by_cases hf:Qan S.es li<S.es.length
  ·obtain ⟨e,he,hp,hb⟩:=Qge hf
   refine ⟨h.lie.sub (fun x hx=>List.mem_of_mem_eraseIdx hx),?_,?_⟩
   ·unfold JO
    rw [he]
    show (JN S.xs e.pos e.l).length=_
    rw [Jc _ _ _ (JH h.xs (h.lie.get he)) e.h]
    exact h.xs
   ·unfold JO JW
    rw [he]
    exact over_drain S.xs h.xs h.lie he (fun x hx=>by have:=hb x hx;omega)
  ·unfold JW JO
   rw [List.eraseIdx_of_length_le (by omega),List.getElem?_eq_none (by omega)]
   exact ⟨h.lie,h.xs,rfl⟩
 refine ⟨h.ok,h.co,h.li,hx.2.1,hx.1,fun j hj=>(h.pt j hj).mono (Nat.le_succ n),fun q eq heq=>?_⟩
 have eX:(Mst.mk S.ps S.en (JW S.es li) (JO S.xs S.es li)).X=S.X:=hx.2.2
 rw [eX]
 exact h.ln q eq heq
end
theorem Inv.fresh (c:Cg) (hc:c.Ok) (xs:List Int) (hx:xs.length=c.li*8):Inv c 0 ⟨List.replicate c.co (pt0 c),List.replicate c.li enE,[],xs⟩ (fun i=>Go.Proofs.YtcgjofbkcgedfaaGreatDoor.ln xs i):=by
 have hgood:Good c.se c.wa (List.replicate (c.se*c.wa) sltZ):=by
  have:=hc.new
  unfold Qcf at this
  exact Good.new (by omega) (by omega) (by omega)
 have haj:AJ c.se c.wa c.li (st0 c):=⟨OnceAt.new hgood,Sane.new _,Int.le_refl 0,fun x hx h0=>by rw [List.eq_of_mem_replicate hx] at h0;exact absurd rfl h0⟩
 have hat:∀j,j<c.co→atP (List.replicate c.co (pt0 c)) j=pt0 c:=fun j hj=>Jv (by rw [List.getElem?_replicate,if_pos hj])
 have hfind:∀li,Qx (st0 c).1 li=sltZ:=fun li=>Qdn (fun x hx=>by rw [List.eq_of_mem_replicate hx];rfl)
 refine ⟨hc,by simp,by simp,hx,Lie.nil _,fun j hj=>?_,fun i e he=>?_⟩
 ·rw [hat j hj]
  exact ⟨haj,Int.le_refl 0,Nat.le_refl 0,Nat.le_refl 0,Nat.le_refl 0,fun m hm=>(by cases hm),fun m hm=>(by cases hm),fun m hm=>(by cases hm)⟩
 ·rw [List.getElem?_replicate] at he
  split at he
  ·injection he with he
   subst he
   refine ⟨rfl,⟨by show (-1:Int)<c.co;omega,by show (0:Int)<c.co;have:=hc.co1;omega,fun j _ h1=>?_,fun j _ h1=>?_⟩,fun j hj=>?_,fun h1=>absurd (show false=true from h1) (by decide),fun _=>rfl,fun h1=>absurd (show false=true from h1) (by decide),fun h1=>absurd (show (0:Int)=1 from h1) (by decide),fun h1=>absurd (show (0:Int)=2 from h1) (by decide)⟩
   ·have h2:hasM 0#8 (j:Int)=true:=h1
    rw [ZM] at h2;cases h2
   ·have h2:hasM 0#8 (j:Int)=true:=h1
    rw [ZM] at h2;cases h2
   ·simp only [hat j hj]
    have e1:vst (pt0 c) i=0:=by unfold vst vw;rw [show (pt0 c).s=st0 c from rfl,hfind];rfl
    rw [e1,bOf_0 (show enE.bu=0 from rfl)]
    show Rel _ _ _ (decide ((-1:Int)=(j:Int))) (hasM 0#8 j) (hasM 0#8 j) 0 0 _ [] [] []
    rw [decide_eq_false (by omega),ZM]
    exact .base (.i _)
  ·cases he
end
section
theorem Asks.msgs {n:Nat} {s s':Sta} {ms:List Ms} (h:Asks n s s' ms) (hn:n≤64):ms.length≤1∧∀m∈ms,mg m=true:=by
 rcases h with ⟨rfl,_⟩|⟨li,h0,hl,ha,_⟩
 ·exact ⟨Nat.zero_le _,fun m hm=>by cases hm⟩
 ·obtain ⟨m,rfl,_,_,_,h4⟩:=ha.msg (by unfold Qc4;simp;omega)
  exact ⟨Nat.le_refl 1,fun a hm=>by rw [List.mem_singleton] at hm;subst hm;exact h4⟩
theorem X3 {k:Int} {n:Nat}:inB k n=true↔0≤k∧k<n:=by unfold inB;simp
section
variable {c:Cg} {n:Nat} {S:Mst} {cur:Nat→List Int} (h:Inv c n S cur)
include h
theorem Inv.next:Inv c (n+1) S cur:=h.mono (Nat.le_succ n)
theorem Inv.loadM (k li wd:Int):Inv c (n+1) (loadM c S k li wd).1 cur:=by
 unfold Go.Proofs.YtcgjofbkcgedfaaGreatDoor.loadM
 cases hp:Xp c S k with
 |none=>exact h.next
 |some x=>
  obtain ⟨j,rfl,hj,hx,_,hP,_⟩:=h.port hp
  dsimp only
  split
  ·rename_i hl
   obtain ⟨a,b,_⟩:=hP.aj.loadF (X3.1 hl).2 wd
   exact h.ag hj hx b a loadF_u.2
  ·exact h.next
theorem Inv.reachM (k li:Int):Inv c (n+1) (reachM c S k li).1 cur:=by
 unfold Go.Proofs.YtcgjofbkcgedfaaGreatDoor.reachM
 cases hp:Xp c S k with
 |none=>exact h.next
 |some x=>
  obtain ⟨j,rfl,hj,hx,_,hP,_⟩:=h.port hp
  dsimp only
  split
  ·rename_i hl
   split
   ·exact h.next
   ·obtain ⟨a,b⟩:=hP.aj.reachF (X3.1 hl).2
    exact h.ag hj hx b a reachF_u.2
  ·exact h.next
theorem Inv.evictM (k li:Int):Inv c (n+1) (evictM c S k li).1 cur:=by
 unfold Go.Proofs.YtcgjofbkcgedfaaGreatDoor.evictM
 cases hp:Xp c S k with
 |none=>exact h.next
 |some x=>
  obtain ⟨j,rfl,hj,hx,_,hP,_⟩:=h.port hp
  dsimp only
  split
  ·obtain ⟨a,b⟩:=hP.aj.evictF li
   exact h.ag hj hx b a evictF_u.2
  ·exact h.next
theorem Inv.flushM (k li kd:Int):Inv c (n+1) (flushM c S k li kd).1 cur:=by
 unfold Go.Proofs.YtcgjofbkcgedfaaGreatDoor.flushM
 cases hp:Xp c S k with
 |none=>exact h.next
 |some x=>
  obtain ⟨j,rfl,hj,hx,_,hP,_⟩:=h.port hp
  dsimp only
  split
  ·rename_i hl
   exact (h.flush hj hx hl.1 hl.2).1
  ·exact h.next
theorem Inv.storeM (k li wd v:Int):Inv c (n+1) (storeM c S k li wd v).1 (if (storeM c S k li wd v).2.hit=true then fun i=>if (i:Int)=li then (cur i).set wd.toNat v else cur i else cur)∧((storeM c S k li wd v).2.hit=true→inB k c.co=true∧inB li c.li=true∧isWd wd=true):=by
 cases hp:Xp c S k with
 |none=>
  have e:Go.Proofs.YtcgjofbkcgedfaaGreatDoor.storeM c S k li wd v=(S,did0):=by unfold Go.Proofs.YtcgjofbkcgedfaaGreatDoor.storeM;rw [hp]
  rw [e]
  exact ⟨h.next,fun h=>by cases h⟩
 |some x=>
  obtain ⟨j,rfl,hj,hx,_,hP,hb⟩:=h.port hp
  by_cases hl:inB li c.li=true
  ·have e:Go.Proofs.YtcgjofbkcgedfaaGreatDoor.storeM c S j li wd v=(S.put j {x with s:=(storeF c.se c.wa x.s li wd v).1,up:=x.up++(storeF c.se c.wa x.s li wd v).2.2},⟨0,(storeF c.se c.wa x.s li wd v).2.1,msZ,0⟩):=by
    unfold Go.Proofs.YtcgjofbkcgedfaaGreatDoor.storeM;rw [hp];exact if_pos hl
   rw [e]
   dsimp only
   obtain ⟨l0,ln⟩:=X3.1 hl
   obtain ⟨i,rfl⟩:∃i:Nat,li=(i:Int):=⟨li.toNat,by omega⟩
   obtain ⟨a,⟨b1,b2,_,b3,b4,b5,b6⟩|⟨b1,b2⟩⟩:=hP.aj.storeF ln wd v
   ·rw [b1,b4,List.append_nil,if_pos rfl]
    refine ⟨?_,fun _=>⟨hb,hl,b2⟩⟩
    obtain ⟨q1,q2⟩:=h.write hj hx ((vw x.s i).2.set wd.toNat v) b3 b5 b6 a storeF_u.2
    rw [q2] at q1
    have e:(fun p:Nat=>if (p:Int)=(i:Int) then (cur p).set wd.toNat v else cur p)=fun p=>if p=i then (cur i).set wd.toNat v else cur p:=by
     funext p
     by_cases hpi:p=i
     ·subst hpi;rw [if_pos rfl,if_pos rfl]
     ·rw [if_neg (by omega),if_neg hpi]
    rw [e]
    exact q1
   ·rw [b1]
    exact ⟨h.ag hj hx b2 a storeF_u.2,fun h=>by cases h⟩
  ·have e:Go.Proofs.YtcgjofbkcgedfaaGreatDoor.storeM c S j li wd v=(S,did0):=by unfold Go.Proofs.YtcgjofbkcgedfaaGreatDoor.storeM;rw [hp];exact if_neg hl
   rw [e]
   exact ⟨h.next,fun h=>by cases h⟩
theorem Inv.upM (k:Int):Inv c (n+1) (upM c S k).1 cur∧(inB k c.co=true→(upM c S k).2.e=0∨(upM c S k).2.e=14∨(upM c S k).2.e=15):=by
 unfold Go.Proofs.YtcgjofbkcgedfaaGreatDoor.upM
 cases hp:Xp c S k with
 |none=>exact ⟨h.next,fun hb=>absurd (hb.symm.trans (h.portNone hp)) (by decide)⟩
 |some x=>
  obtain ⟨j,rfl,hj,hx,_,hP,hb⟩:=h.port hp
  dsimp only
  cases hu:x.up with
  |nil=>exact ⟨h.next,fun _=>.inr (.inl rfl)⟩
  |cons m rest=>
   obtain ⟨i,e,hi,hic,he,hc⟩:=h.up hj hx hu
   have ei:i=m.li.toNat:=by omega
   subst ei
   dsimp only
   rw [he]
   dsimp only
   rcases hc with ⟨_,h2⟩|⟨_,o,a,e',h2,_,_,h3⟩
   ·rw [h2,if_neg (by decide)]
    exact ⟨h.next,fun _=>.inr (.inr rfl)⟩
   ·rw [h2,if_pos rfl]
    exact ⟨h3,fun _=>.inl rfl⟩
theorem Inv.answerM (k:Int):Inv c (n+1) (answerM c S k).1 cur∧(inB k c.co=true→(answerM c S k).2.e=0∨(answerM c S k).2.e=14):=by
 unfold Go.Proofs.YtcgjofbkcgedfaaGreatDoor.answerM
 cases hp:Xp c S k with
 |none=>exact ⟨h.next,fun hb=>absurd (hb.symm.trans (h.portNone hp)) (by decide)⟩
 |some x=>
  obtain ⟨j,rfl,hj,hx,_,hP,hb⟩:=h.port hp
  dsimp only
  cases hu:x.an with
  |nil=>exact ⟨h.next,fun _=>.inr rfl⟩
  |cons m rest=>
   obtain ⟨i,e,hi,hic,he,o,a,e',h2,_,_,h3⟩:=h.answer hj hx hu
   dsimp only
   rw [hi,Int.toNat_natCast,he]
   dsimp only
   rw [h2,if_pos rfl]
   exact ⟨h3,fun _=>.inl rfl⟩
end
theorem find_live (xs:List Slt) (li:Int):Qx xs li=((live xs).find? (fun x=>x.li==li)).getD sltZ:=by
 unfold live
 rw [List.find?_filter]
 have e:(fun a:Slt=>decide ((a.st !=0)=true∧(a.li==li)=true))=XQ li:=by
  funext a;unfold XQ;by_cases h1:a.st=0<;>by_cases h2:a.li=li<;>simp [h1,h2]
 rw [e]
 rcases Qb4 xs li with ⟨_,h2,h3⟩|⟨h1,h3,h2⟩
 ·unfold Qx
  unfold XD at h3
  have hlt:=of_decide_eq_true h3
  have:=List.findIdx_getElem (w:=hlt)
  rw [List.getElem?_eq_getElem hlt]
  have h4:xs.find? (XQ li)=some xs[xs.findIdx (XQ li)]:=by
   rw [List.find?_eq_some_iff_getElem]
   refine ⟨this,xs.findIdx (XQ li),hlt,rfl,fun j hj=>?_⟩
   have:=List.not_of_lt_findIdx hj
   simpa using this
  rw [h4];rfl
 ·rw [h1]
  have:xs.find? (XQ li)=none:=by
   rw [List.find?_eq_none]
   intro x hx
   rw [h2 x hx];decide
  rw [this];rfl
theorem tb_ne (kd st:Int) (h14:kd≠14) (h:tb kd st≠0):(tb kd st=10∧st≠0)∨(tb kd st≠10∧tb kd st≠11∧tb kd st≠st):=by
 unfold tb at *
 repeat' split at h
 all_goals first |omega|simp_all
 all_goals omega
section
variable {c:Cg} {n:Nat} {S:Mst} {cur:Nat→List Int} (h:Inv c n S cur)
include h
theorem Inv.hearM (k:Int):Inv c (n+1) (hearM c S k).1 cur∧(inB k c.co=true→(hearM c S k).2.e=0∨(hearM c S k).2.e=14)∧
 (inB k c.co=true→(hearM c S k).2.e=0→(hearM c S k).2.m.kd≠14→live (atP (hearM c S k).1.ps k.toNat).s.1≠live (atP S.ps k.toNat).s.1):=by
 unfold Go.Proofs.YtcgjofbkcgedfaaGreatDoor.hearM
 cases hp:Xp c S k with
 |none=>exact ⟨h.next,fun hb=>absurd (hb.symm.trans (h.portNone hp)) (by decide),fun hb=>absurd (hb.symm.trans (h.portNone hp)) (by decide)⟩
 |some x=>
  obtain ⟨j,rfl,hj,hx,hat,hP,hb⟩:=h.port hp
  dsimp only
  cases hd:x.dn with
  |nil=>exact ⟨h.next,fun _=>.inr rfl,fun _ he=>absurd (show (14:Int)=0 from he) (by decide)⟩
  |cons m rest=>
   obtain ⟨ht,h2,_,_,h3⟩:=h.hear hj hx hd
   dsimp only
   rw [if_pos h2]
   refine ⟨h3,fun _=>.inl rfl,fun _ _ h14 hl=>?_⟩
   rw [Int.toNat_natCast] at hl
   have hk:=(Vg hx).1
   have e0:(S.put (j:Int) {x with s:=(hearF c.se c.wa x.s m).1,an:=x.an++(hearF c.se c.wa x.s m).2.1,dn:=rest}).ps=S.ps.set j {x with s:=(hearF c.se c.wa x.s m).1,an:=x.an++(hearF c.se c.wa x.s m).2.1,dn:=rest}:=by unfold Mst.put;rw [Int.toNat_natCast]
   dsimp only at hl h14
   rw [e0,Yz hk,if_pos rfl,hat] at hl
   obtain ⟨m1,m2,m3⟩:=hP.fd m (by rw [hd];simp)
   have hg:(mg m&&Y1 m.kd)=true:=by rw [m1,m2];rfl
   obtain ⟨_,_,_,v10,_,vno⟩:=hP.aj.hearF hg m3 ht
   have hv:(vw (hearF c.se c.wa x.s m).1 m.li).1=(vw x.s m.li).1:=by
    unfold vw
    rw [find_live,find_live (x.s.1),hl]
   rcases tb_ne m.kd _ h14 ht with ⟨q1,q2⟩|⟨q1,q2,q3⟩
   ·rw [v10 q1] at hv;exact q2 hv.symm
   ·rw [vno q1 q2] at hv;exact q3 hv
theorem Inv.pushM (li:Int):Inv c (n+1) (pushM c S li).1 cur:=by
 unfold Go.Proofs.YtcgjofbkcgedfaaGreatDoor.pushM
 split
 ·rename_i hl
  obtain ⟨l0,ln⟩:=X3.1 hl
  obtain ⟨i,rfl⟩:∃i:Nat,li=(i:Int):=⟨li.toNat,by omega⟩
  rw [Int.toNat_natCast]
  obtain ⟨e,he,_⟩:=h.entry (i:=i) (by omega)
  rw [he]
  dsimp only
  by_cases hr:JJ e=true
  ·rw [if_pos hr]
   by_cases hv:Qai c S.es i e=0
   ·rw [if_pos hv];exact (h.push (by omega) he hr).2.2.2 hv
   ·rw [if_neg hv]
    dsimp only
    rw [(h.saved (show i<c.li by omega) e).2.1 hv]
    exact h.next
  ·rw [if_neg hr];exact h.next
 ·exact h.next
theorem Inv.dropM (li:Int):Inv c (n+1) (dropM c S li).1 cur:=by
 unfold Go.Proofs.YtcgjofbkcgedfaaGreatDoor.dropM
 split
 ·rename_i hl
  obtain ⟨l0,ln⟩:=X3.1 hl
  obtain ⟨i,rfl⟩:∃i:Nat,li=(i:Int):=⟨li.toNat,by omega⟩
  rw [Int.toNat_natCast]
  obtain ⟨e,he,_⟩:=h.entry (i:=i) (by omega)
  rw [he]
  dsimp only
  by_cases hr:Qdb e=true
  ·rw [if_pos hr];exact h.next
  ·rw [if_neg hr]
   by_cases hv:Qai c S.es i e=0
   ·rw [if_pos hv];exact h.drop (by omega) he (by simpa using hr) hv
   ·rw [if_neg hv]
    dsimp only
    rw [(h.saved (show i<c.li by omega) e).2.1 hv]
    exact h.next
 ·exact h.next
theorem Inv.drainM (li:Int):Inv c (n+1) (drainM c S li).1 cur:=by
 unfold Go.Proofs.YtcgjofbkcgedfaaGreatDoor.drainM
 split
 ·exact h.drain li
 ·exact h.next
theorem Inv.failM:Inv c (n+1) (failM c S) (fun i=>Go.Proofs.YtcgjofbkcgedfaaGreatDoor.ln (failM c S).X i):=by
 refine (Inv.fresh c h.ok (J4 S.X c.vo) ?_).mono (Nat.zero_le _)
 rw [Qfi _ _ (by rw [h.lX];have:=h.ok.vol;omega)]
 exact h.lX
end
end
section
def MTS (W w:World) (c:Cg) (sy:Nat) (F:List Nat) (S:Mst) (w':World):Prop:=MemTo W w c sy F S.ps S.en S.es S.xs w'
def MS (W w:World) (c:Cg) (sy:Nat) (F:List Nat) (S:Mst):Prop:=Mem W w c sy F S.ps S.en S.es S.xs
theorem tellL_len (o:Mk) (a:Ms):(Xt o a).length≤8:=by
 unfold Xt Qa4
 rw [List.length_map]
 exact Qew o 8
theorem tellL_to {o:Mk} {a:Ms} {co:Nat} (ho:∀j:Nat,j<8→hasM o j=true→j<co) (ha:mg a=true):∀d∈Xt o a,0≤d.to∧d.to<co∧mg d.m=true:=by
 intro d hd
 obtain ⟨h1,h2⟩:=Qg7 hd
 obtain ⟨j,hj,he⟩:=JU (has_isC h1)
 rw [he] at h1
 have:=ho j hj h1
 exact ⟨by omega,by omega,by rw [h2];exact ha⟩
section
variable {W w:World} {c:Cg} {sy n:Nat} {F:List Nat} {S:Mst} {cur:Nat→List Int} (hm:MS W w c sy F S) (hI:Inv c n S cur)
include hm
include hI
theorem yfail:Calls Tryz.prog 98 #[.pointer (some ⟨sy,0,none⟩)] w fun e w'=>e=.returned (.tuple #[])∧MTS W w c sy F (failM c S) w':=mfail_ok hm hI.ok
end
end
section
structure Quiet (c:Cg) (S:Mst):Prop where
 q:∀j,j<c.co→(atP S.ps j).up=[]∧(atP S.ps j).an=[]∧(atP S.ps j).dn=[]
 bu:∀e∈S.en,e.bu=0
section
variable {c:Cg} {n:Nat} {S:Mst} {cur:Nat→List Int} (h:Inv c n S cur) (hq:Quiet c S)
include h hq
end
end
section
section
variable {c:Cg} {S:Mst} (hl:S.ps.length=c.co) {j:Nat} (hj:j<c.co)
include hl hj
end
structure Req (c:Cg) (k i:Nat) (m:Ms) (en0:List En) (e0:En) (Z:Prop):Prop where
 hk:k<c.co
 hi:i<c.li
 hm:m.li=(i:Int)
 hb:∀e∈en0,e.bu=0
 he:en0[i]? =some e0
 hz:m.kd=4∨m.kd=5→Z
structure PA (c:Cg) (k i:Nat) (m:Ms) (en0:List En) (sK:Sta) (Z:Prop) (S:Mst):Prop where
 q:∀j,j<c.co→(atP S.ps j).up=(if j=k then [m] else [])∧(atP S.ps j).an=[]∧(atP S.ps j).dn=[]
 en:S.en=en0
 sk:(atP S.ps k).s=sK
 es:Z→S.es=[]
section
variable {c:Cg} {k i:Nat} {m:Ms} {en0:List En} {e0 e:En} {sK:Sta} {Z:Prop} {S:Mst}
variable {n:Nat} {cur:Nat→List Int} (R:Req c k i m en0 e0 Z) (h:Inv c n S cur)
include R h
end
end
section
def Roomy (c:Cg) (S:Mst):Prop:=∀j,j<c.co→(atP S.ps j).up.length≤980∧(atP S.ps j).an.length≤980∧(atP S.ps j).dn.length≤980
theorem Roomy.dnB {c:Cg} {n:Nat} {S:Mst} {cur:Nat→List Int} (hQ:Roomy c S) (h:Inv c n S cur):∀x∈S.ps,x.dn.length≤980:=by
 intro x hx
 obtain ⟨j,hj⟩:=List.getElem?_of_mem hx
 have hjl:=(Vg hj).1
 have:=(hQ j (by rw [←h.co];exact hjl)).2.2
 rw [Jv hj] at this
 exact this
section
variable {W w:World} {c:Cg} {sy n:Nat} {F:List Nat} {S:Mst} {cur:Nat→List Int} (hm:MS W w c sy F S) (hI:Inv c n S cur)
include hm
theorem MS.sameU {w':World} (hc:Chg [] w w'):MTS W w c sy F S w':=Mem.stay hm hc
include hI
theorem uload (hn:n≤1000000000) (hQ:Roomy c S) (hT:Tab W) (k li wd:Int):
 Calls Tryz.prog 202 #[.pointer (some ⟨sy,0,none⟩),.int .i64 k,.int .i64 li,.int .i64 wd] w fun e w'=>e=.returned (.tuple #[.int .u64 (loadM c S k li wd).2.v,.bool (loadM c S k li wd).2.hit])∧MTS W w c sy F (loadM c S k li wd).1 w':=by
 unfold loadM
 cases hp:Xp c S k with
 |none=>exact (mload_no hm k li wd (hI.portNone hp)).mono fun e w' h=>⟨h.1,MS.sameU hm (h.2▸Chg.refl [] w)⟩
 |some x=>
  obtain ⟨j,rfl,hj,hx,hat,hP,_⟩:=hI.port hp
  have hQj:=hQ j hj
  rw [hat] at hQj
  have hus:x.s.2≤1000000000:=by have:=hP.us;omega
  have hq:x.up.length<1000:=by have:=hQj.1;omega
  have h64:=hI.ok.li64
  dsimp only
  by_cases hl:inB li c.li=true
  ·rw [if_pos hl]
   obtain ⟨_,b,_⟩:=hP.aj.loadF (X3.1 hl).2 wd
   exact mload_ok hm j li wd x hx hT hl hus hq (b.msgs h64).2 (b.msgs h64).1
  ·rw [if_neg hl]
   exact (mload_off hm j li wd hj (by simpa using hl)).mono fun e w' h=>⟨h.1,MS.sameU hm (h.2▸Chg.refl [] w)⟩
theorem ustore (hn:n≤1000000000) (hQ:Roomy c S) (hT:Tab W) (k li wd v:Int):
 Calls Tryz.prog 152 #[.pointer (some ⟨sy,0,none⟩),.int .i64 k,.int .i64 li,.int .i64 wd,.int .u64 v] w fun e w'=>e=.returned (.bool (storeM c S k li wd v).2.hit)∧MTS W w c sy F (storeM c S k li wd v).1 w':=by
 unfold storeM
 cases hp:Xp c S k with
 |none=>exact (mstore_no hm k li wd v (hI.portNone hp)).mono fun e w' h=>⟨h.1,MS.sameU hm (h.2▸Chg.refl [] w)⟩
 |some x=>
  obtain ⟨j,rfl,hj,hx,hat,hP,_⟩:=hI.port hp
  have hQj:=hQ j hj
  rw [hat] at hQj
  have hus:x.s.2≤1000000000:=by have:=hP.us;omega
  have hq:x.up.length<1000:=by have:=hQj.1;omega
  have h64:=hI.ok.li64
  dsimp only
  by_cases hl:inB li c.li=true
  ·rw [if_pos hl]
   have hms:(storeF c.se c.wa x.s li wd v).2.2.length≤1∧∀m∈(storeF c.se c.wa x.s li wd v).2.2,mg m=true:=by
    obtain ⟨_,⟨_,_,_,_,b4,_,_⟩|⟨_,b2⟩⟩:=hP.aj.storeF (X3.1 hl).2 wd v
    ·rw [b4];exact ⟨Nat.zero_le _,fun m hm=>by cases hm⟩
    ·exact b2.msgs h64
   exact mstore_ok hm j li wd v x hx hT hl hus hq hms.2 hms.1
  ·rw [if_neg hl]
   exact (mstore_off hm j li wd v hj (by simpa using hl)).mono fun e w' h=>⟨h.1,MS.sameU hm (h.2▸Chg.refl [] w)⟩
theorem ureach (hn:n≤1000000000) (hQ:Roomy c S) (hT:Tab W) (k li:Int):
 Calls Tryz.prog 204 #[.pointer (some ⟨sy,0,none⟩),.int .i64 k,.int .i64 li] w fun e w'=>e=.returned (.bool (reachM c S k li).2.hit)∧MTS W w c sy F (reachM c S k li).1 w':=by
 unfold reachM
 cases hp:Xp c S k with
 |none=>exact (mreach_no hm k li (hI.portNone hp)).mono fun e w' h=>⟨h.1,MS.sameU hm (h.2▸Chg.refl [] w)⟩
 |some x=>
  obtain ⟨j,rfl,hj,hx,hat,hP,_⟩:=hI.port hp
  have hQj:=hQ j hj
  rw [hat] at hQj
  have hus:x.s.2≤1000000000:=by have:=hP.us;omega
  have hq:x.up.length<1000:=by have:=hQj.1;omega
  have h64:=hI.ok.li64
  dsimp only
  by_cases hl:inB li c.li=true
  ·rw [if_pos hl]
   by_cases ho:Qee x.s.1 li=true
   ·rw [if_pos ho]
    exact (mreach_own hm j li x hx hl ho).mono fun e w' h=>⟨h.1,MS.sameU hm h.2⟩
   ·rw [if_neg ho]
    obtain ⟨_,b⟩:=hP.aj.reachF (X3.1 hl).2
    exact mreach_ok hm j li x hx hT hl (by simpa using ho) hus hq (b.msgs h64).2 (b.msgs h64).1
  ·rw [if_neg hl]
   exact (mreach_off hm j li hj (by simpa using hl)).mono fun e w' h=>⟨h.1,MS.sameU hm (h.2▸Chg.refl [] w)⟩
theorem uevict (hn:n≤1000000000) (hQ:Roomy c S) (hT:Tab W) (k li:Int):
 Calls Tryz.prog 95 #[.pointer (some ⟨sy,0,none⟩),.int .i64 k,.int .i64 li] w fun e w'=>e=.returned (.int .i64 (evictM c S k li).2.e)∧MTS W w c sy F (evictM c S k li).1 w':=by
 unfold evictM
 cases hp:Xp c S k with
 |none=>exact (mevict_no hm k li (hI.portNone hp)).mono fun e w' h=>⟨h.1,MS.sameU hm (h.2▸Chg.refl [] w)⟩
 |some x=>
  obtain ⟨j,rfl,hj,hx,hat,hP,_⟩:=hI.port hp
  have hQj:=hQ j hj
  rw [hat] at hQj
  have hus:x.s.2≤1000000000:=by have:=hP.us;omega
  have hq:x.up.length<1000:=by have:=hQj.1;omega
  have h64:=hI.ok.li64
  dsimp only
  by_cases hl:inB li c.li=true
  ·rw [if_pos hl]
   obtain ⟨_,b⟩:=hP.aj.evictF li
   exact mevict_ok hm j li x hx hT hl hus hq (b.msgs h64).2 (b.msgs h64).1
  ·rw [if_neg hl]
   exact (mevict_off hm j li hj (by simpa using hl)).mono fun e w' h=>⟨h.1,MS.sameU hm (h.2▸Chg.refl [] w)⟩
theorem uflush (hn:n≤1000000000) (hQ:Roomy c S) (hT:Tab W) (k li kd:Int):
 Calls Tryz.prog 154 #[.pointer (some ⟨sy,0,none⟩),.int .i64 k,.int .i64 li,.int .i64 kd] w fun e w'=>e=.returned (.int .i64 (flushM c S k li kd).2.e)∧MTS W w c sy F (flushM c S k li kd).1 w':=by
 unfold flushM
 cases hp:Xp c S k with
 |none=>exact (mflush_no hm k li kd (hI.portNone hp)).mono fun e w' h=>⟨h.1,MS.sameU hm (h.2▸Chg.refl [] w)⟩
 |some x=>
  obtain ⟨j,rfl,hj,hx,hat,hP,_⟩:=hI.port hp
  have hQj:=hQ j hj
  rw [hat] at hQj
  have hus:x.s.2≤1000000000:=by have:=hP.us;omega
  have hq:x.up.length<1000:=by have:=hQj.1;omega
  have h64:=hI.ok.li64
  dsimp only
  by_cases hl:inB li c.li=true
  ·by_cases hk:kd=4∨kd=5
   ·rw [if_pos ⟨hl,hk⟩]
    have hmg:=(hI.flush hj hx hl hk).2
    rcases hk with rfl|rfl
    ·exact mflush_4 hm j li x hx hT hl hq hmg
    ·exact mflush_5 hm j li x hx hT hl hq hmg
   ·rw [if_neg (fun h=>hk h.2)]
    exact (mflush_kind hm j li kd hj hl (fun h=>hk (.inl h)) (fun h=>hk (.inr h))).mono fun e w' h=>⟨h.1,MS.sameU hm (h.2▸Chg.refl [] w)⟩
  ·rw [if_neg (fun h=>hl h.1)]
   exact (mflush_off hm j li kd hj (by simpa using hl)).mono fun e w' h=>⟨h.1,MS.sameU hm (h.2▸Chg.refl [] w)⟩
theorem uup (hn:n≤1000000000) (hQ:Roomy c S) (hT:Tab W) (k:Int):
 Calls Tryz.prog 89 #[.pointer (some ⟨sy,0,none⟩),.int .i64 k] w fun e w'=>e=.returned (.int .i64 (upM c S k).2.e)∧MTS W w c sy F (upM c S k).1 w':=by
 unfold upM
 cases hp:Xp c S k with
 |none=>exact (mup_no hm k (hI.portNone hp)).mono fun e w' h=>⟨h.1,MS.sameU hm (h.2▸Chg.refl [] w)⟩
 |some x=>
  obtain ⟨j,rfl,hj,hx,hat,hP,_⟩:=hI.port hp
  have hQj:=hQ j hj
  rw [hat] at hQj
  have hus:x.s.2≤1000000000:=by have:=hP.us;omega
  have hq:x.up.length<1000:=by have:=hQj.1;omega
  have h64:=hI.ok.li64
  dsimp only
  cases hu:x.up with
  |nil=>exact (mup_none hm j x hx hu).mono fun e w' h=>⟨h.1,MS.sameU hm h.2⟩
  |cons m rest=>
   obtain ⟨i,e,hi,hic,he,hc⟩:=hI.up hj hx hu
   have ei:i=m.li.toNat:=by omega
   subst ei
   dsimp only
   rw [he]
   dsimp only
   have hX:ln (over S.xs S.es) m.li.toNat=lnG S.X m.li.toNat:=(lnG_eq (hI.ln8 hic)).symm
   rcases hc with ⟨_,h2⟩|⟨_,o,a,e',h2,h3,h4,_⟩
   ·rw [h2,if_neg (by decide)]
    refine (mup_go hm j m.li.toNat x hx m rest e enZ (lnG S.X m.li.toNat) (Qa8 _ _) [] 15 hT hu (by omega) hi he hX h2 (fun d hd=>by cases hd) 980 (hQ.dnB hI) (by show 980+0≤1000;omega)).mono fun r w' hr=>?_
    rcases hr with ⟨_,q2,q3⟩|⟨q1,_⟩
    ·exact ⟨q2,q3⟩
    ·exact absurd q1 (by decide)
   ·rw [h2,if_pos rfl]
    refine (mup_go hm j m.li.toNat x hx m rest e e' (lnG S.X m.li.toNat) (Qa8 _ _) (Xt o a) 0 hT hu (by omega) hi he hX h2 (tellL_to h4 h3.1) 980 (hQ.dnB hI) (by have:=tellL_len o a;omega)).mono fun r w' hr=>?_
    rcases hr with ⟨q1,_⟩|⟨_,q2,q3⟩
    ·exact absurd rfl q1
    ·exact ⟨q2,q3⟩
theorem uanswer (hn:n≤1000000000) (hQ:Roomy c S) (hT:Tab W) (k:Int):
 Calls Tryz.prog 90 #[.pointer (some ⟨sy,0,none⟩),.int .i64 k] w fun e w'=>e=.returned (.int .i64 (answerM c S k).2.e)∧MTS W w c sy F (answerM c S k).1 w':=by
 unfold answerM
 cases hp:Xp c S k with
 |none=>exact (manswer_no hm k (hI.portNone hp)).mono fun e w' h=>⟨h.1,MS.sameU hm (h.2▸Chg.refl [] w)⟩
 |some x=>
  obtain ⟨j,rfl,hj,hx,hat,hP,_⟩:=hI.port hp
  have hQj:=hQ j hj
  rw [hat] at hQj
  have hus:x.s.2≤1000000000:=by have:=hP.us;omega
  have hq:x.up.length<1000:=by have:=hQj.1;omega
  have h64:=hI.ok.li64
  dsimp only
  cases hu:x.an with
  |nil=>
   refine (manswer_none hm j x hx hu).mono fun e w' h=>⟨h.1,?_⟩
   have e1:S.ps.set j {x with an:=[]}=S.ps:=by
    have:({x with an:=[]}:Pt)=x:=by rw [←hu]
    rw [this]
    obtain ⟨h1,h2⟩:=Vg hx
    rw [←h2];exact List.set_getElem_self h1
   have h2:=h.2
   rw [e1] at h2
   exact h2
  |cons m rest=>
   obtain ⟨i,e,hi,hic,he,o,a,e',h2,h3,h4,_⟩:=hI.answer hj hx hu
   have ei:i=m.li.toNat:=by omega
   subst ei
   dsimp only
   rw [he]
   dsimp only
   rw [h2,if_pos rfl]
   refine (manswer_go hm j m.li.toNat x hx m rest e e' (Xt o a) 0 hT hu (by have:=hQj.2.1;omega) hi he h2 (tellL_to h4 h3.1) 980 (hQ.dnB hI) (by have:=tellL_len o a;omega)).mono fun r w' hr=>?_
   rcases hr with ⟨q1,_⟩|⟨_,q2,q3⟩
   ·exact absurd rfl q1
   ·exact ⟨q2,q3⟩
theorem uhear (hn:n≤1000000000) (hQ:Roomy c S) (hT:Tabs W) (k:Int):
 Calls Tryz.prog 91 #[.pointer (some ⟨sy,0,none⟩),.int .i64 k] w fun e w'=>e=.returned (.tuple #[.agg (msc (hearM c S k).2.m),.int .i64 (hearM c S k).2.e])∧MTS W w c sy F (hearM c S k).1 w':=by
 unfold hearM
 cases hp:Xp c S k with
 |none=>exact (mhear_no hm k (hI.portNone hp)).mono fun e w' h=>⟨h.1,MS.sameU hm h.2⟩
 |some x=>
  obtain ⟨j,rfl,hj,hx,hat,hP,_⟩:=hI.port hp
  have hQj:=hQ j hj
  rw [hat] at hQj
  have hus:x.s.2≤1000000000:=by have:=hP.us;omega
  have hq:x.up.length<1000:=by have:=hQj.1;omega
  have h64:=hI.ok.li64
  dsimp only
  cases hu:x.dn with
  |nil=>
   refine (mhear_none hm j x hx hu).mono fun e w' h=>⟨h.1,?_⟩
   have e1:S.ps.set j {x with dn:=[]}=S.ps:=by
    have:({x with dn:=[]}:Pt)=x:=by rw [←hu]
    rw [this]
    obtain ⟨h1,h2⟩:=Vg hx
    rw [←h2];exact List.set_getElem_self h1
   have h2:=h.2
   rw [e1] at h2
   exact h2
  |cons m rest=>
   obtain ⟨_,h2,h3,h4,_⟩:=hI.hear hj hx hu
   dsimp only
   rw [if_pos h2]
   refine (mhear_go hm j x hx m rest (hearF c.se c.wa x.s m).1 (hearF c.se c.wa x.s m).2.1 0 hT hu (by have:=hQj.2.2;omega) hus (by rw [←h2]) h3 (by have:=hQj.2.1;omega) h4).mono fun r w' hr=>?_
   rcases hr with ⟨q1,_⟩|⟨_,q2,q3⟩
   ·exact absurd rfl q1
   ·exact ⟨q2,q3⟩
theorem upush (hn:n≤1000000000) (hQ:Roomy c S) (hT:Tab W) (li:Int):
 Calls Tryz.prog 93 #[.pointer (some ⟨sy,0,none⟩),.int .i64 li] w fun e w'=>e=.returned (.int .i64 (pushM c S li).2.e)∧MTS W w c sy F (pushM c S li).1 w':=by
 unfold pushM
 by_cases hl:inB li c.li=true
 ·rw [if_pos hl]
  obtain ⟨l0,ln⟩:=X3.1 hl
  obtain ⟨i,rfl⟩:∃i:Nat,li=(i:Int):=⟨li.toNat,by omega⟩
  rw [Int.toNat_natCast]
  have hic:i<c.li:=by omega
  obtain ⟨e,he,_⟩:=hI.entry hic
  rw [he]
  dsimp only
  by_cases hr:JJ e=true
  ·rw [if_pos hr]
   obtain ⟨p1,p2,p3,_⟩:=hI.push hic he hr
   have hg:=mpush_go hm i e hT he hr p1 p2 p3 (Qai c S.es i e) rfl (Jl c S.es i e) rfl 980 (hQ.dnB hI) (by omega)
   by_cases hv:Qai c S.es i e=0
   ·rw [if_pos hv]
    refine hg.mono fun r w' h=>?_
    rcases h with ⟨q1,_⟩|⟨_,q2,q3⟩
    ·exact absurd hv q1
    ·refine ⟨q2,?_⟩
     rw [←Qg6 p1] at q3
     exact q3
   ·rw [if_neg hv]
    refine hg.mono fun r w' h=>?_
    rcases h with ⟨_,q2,q3⟩|⟨q1,_⟩
    ·exact ⟨q2,q3⟩
    ·exact absurd q1 hv
  ·rw [if_neg hr]
   exact (mpush_wait hm i e hT he (by simpa using hr)).mono fun e w' h=>⟨h.1,MS.sameU hm h.2⟩
 ·rw [if_neg hl]
  exact (mpush_off hm li (by simpa using hl)).mono fun e w' h=>⟨h.1,MS.sameU hm (h.2▸Chg.refl [] w)⟩
theorem udrop (hn:n≤1000000000) (hQ:Roomy c S) (hT:Tab W) (li:Int):
 Calls Tryz.prog 96 #[.pointer (some ⟨sy,0,none⟩),.int .i64 li] w fun e w'=>e=.returned (.int .i64 (dropM c S li).2.e)∧MTS W w c sy F (dropM c S li).1 w':=by
 unfold dropM
 by_cases hl:inB li c.li=true
 ·rw [if_pos hl]
  obtain ⟨l0,ln⟩:=X3.1 hl
  obtain ⟨i,rfl⟩:∃i:Nat,li=(i:Int):=⟨li.toNat,by omega⟩
  rw [Int.toNat_natCast]
  have hic:i<c.li:=by omega
  obtain ⟨e,he,_⟩:=hI.entry hic
  rw [he]
  dsimp only
  by_cases hr:Qdb e=true
  ·rw [if_pos hr]
   exact (mdrop_kept hm i e he hr).mono fun e w' h=>⟨h.1,MS.sameU hm h.2⟩
  ·rw [if_neg hr]
   have hg:=mdrop_go hm i e hT he (by simpa using hr) (Qai c S.es i e) rfl (Jl c S.es i e) rfl 980 (hQ.dnB hI) (by omega)
   by_cases hv:Qai c S.es i e=0
   ·rw [if_pos hv]
    refine hg.mono fun r w' h=>?_
    rcases h with ⟨q1,_⟩|⟨_,q2,q3⟩
    ·exact absurd hv q1
    ·exact ⟨q2,q3⟩
   ·rw [if_neg hv]
    refine hg.mono fun r w' h=>?_
    rcases h with ⟨_,q2,q3⟩|⟨q1,_⟩
    ·exact ⟨q2,q3⟩
    ·exact absurd q1 hv
 ·rw [if_neg hl]
  exact (mdrop_off hm li (by simpa using hl)).mono fun e w' h=>⟨h.1,MS.sameU hm (h.2▸Chg.refl [] w)⟩
theorem udrain (hn:n≤1000000000) (hQ:Roomy c S) (hT:Tab W) (li:Int):
 Calls Tryz.prog 97 #[.pointer (some ⟨sy,0,none⟩),.int .i64 li] w fun e w'=>e=.returned (.int .i64 (drainM c S li).2.e)∧MTS W w c sy F (drainM c S li).1 w':=by
 unfold drainM
 have _hI:=hI
 by_cases hl:inB li c.li=true
 ·rw [if_pos hl]
  exact mdrain_ok hm li hl
 ·rw [if_neg hl]
  exact (mdrain_off hm li (by simpa using hl)).mono fun e w' h=>⟨h.1,MS.sameU hm (h.2▸Chg.refl [] w)⟩
end
end
section
set_option linter.unusedSectionVars false
def flB (e:En) (j:Nat):Bool:=(e.bu==4||e.bu==5)&&e.by_==(j:Int)
def fU (x:Pt):Nat:=x.up.countP (fun m=>decide (4≤m.kd))
def fD (x:Pt):Nat:=x.dn.countP (fun m=>m.kd==14)
def fE (en:List En) (j:Nat):Nat:=en.countP (flB · j)
def Fl (S:Mst) (j:Nat):Nat:=fU (atP S.ps j)+fE S.en j+fD (atP S.ps j)
theorem flB_bu {e e':En} (h1:e'.bu=e.bu) (h2:e'.by_=e.by_) (j:Nat):flB e' j=flB e j:=by unfold flB;rw [h1,h2]
theorem Qdl {e:En} (h:e.bu≠4) (h5:e.bu≠5) (j:Nat):flB e j=false:=by unfold flB;simp [h,h5]
theorem fE_set {en:List En} {i:Nat} {e e':En} (h:en[i]? =some e) (j:Nat):fE (en.set i e') j+(if flB e j=true then 1 else 0)=fE en j+(if flB e' j=true then 1 else 0):=by
 obtain ⟨hi,rfl⟩:=Vg h
 unfold fE
 rw [List.countP_set hi]
 have:(if flB en[i] j=true then 1 else 0)≤en.countP (flB · j):=by
  split
  ·rename_i hb
   exact List.countP_pos_iff.2 ⟨_,List.getElem_mem hi,hb⟩
  ·exact Nat.zero_le _
 omega
theorem fE_same {en:List En} {i:Nat} {e e':En} (h:en[i]? =some e) {j:Nat} (hb:flB e' j=flB e j):fE (en.set i e') j=fE en j:=by
 have:=fE_set (e':=e') h j
 rw [hb] at this
 omega
theorem Qhn (e:En) (c:Int):(Q9 e c).bu=e.bu∧(Q9 e c).by_=e.by_:=by unfold Q9;split<;>exact ⟨rfl,rfl⟩
theorem Qhm (e:En) (m:Ms):(Zb e m).bu=e.bu∧(Zb e m).by_=e.by_:=by unfold Zb;split<;>exact ⟨rfl,rfl⟩
theorem hereP_bu (e:En) (l:List Int) (h:l.length=8):(Qce e l h).bu=e.bu∧(Qce e l h).by_=e.by_:=by unfold Qce;split<;>exact ⟨rfl,rfl⟩
theorem deed_fl {e:En} (h0:e.bu=0) (k:Nat) {m:Ms} (hm:Qef m.kd=true) (j:Nat):flB (Yy e (k:Int) m).1 j=(decide (4≤m.kd)&&decide (k=j)):=by
 have hk:1≤m.kd∧m.kd≤5:=by simpa [Qef] using hm
 have hz:∀e':En,e'.bu=0→flB e' j=false:=fun e' h=>Qdl (by omega) (by omega) j
 have hw:∀(o:Mk) (kt:Int),m.kd≤3→flB (JR e (k:Int) m o kt).1 j=false:=fun o kt h3=>Qdl (show m.kd≠4 by omega) (show m.kd≠5 by omega) j
 have hf:∀(o:Mk) (kt:Int),4≤m.kd→flB (JR e (k:Int) m o kt).1 j=decide (k=j):=by
  intro o kt h4
  show ((m.kd==4||m.kd==5)&&(k:Int)==(j:Int))=_
  have:(m.kd==4||m.kd==5)=true:=by simp;omega
  rw [this,Bool.true_and]
  by_cases hj:k=j
  ·simp [hj]
  ·have:(k:Int)≠(j:Int):=by omega
   simp [hj,this]
 by_cases h3:m.kd≤3
 ·have e4:decide (4≤m.kd)=false:=decide_eq_false (by omega)
  rw [e4,Bool.false_and]
  unfold Yy
  split
  ·unfold Qer
   split
   ·exact hw _ _ h3
   ·split
    ·exact hz _ h0
    ·exact hz _ h0
  split
  ·unfold Qgb
   split
   ·exact hz _ h0
   ·exact hw _ _ h3
  split
  ·unfold putE
   refine hz _ ?_
   rw [(Qhn _ _).1]
   split
   ·rw [(Qhm _ _).1];exact h0
   ·exact h0
  ·omega
 ·have e4:decide (4≤m.kd)=true:=decide_eq_true (by omega)
  rw [e4,Bool.true_and]
  unfold Yy
  rw [if_neg (by omega),if_neg (by omega),if_neg (by omega)]
  split
  ·exact hf _ _ (by omega)
  ·exact hf _ _ (by omega)
theorem ans_fl {e e':En} {k:Int} {m:Ms} {d:List Sd} (h:ansE e k m=((e',d),0)) (j:Nat):flB e' j=flB e j:=by
 have ha:(QQ e k m).bu=e.bu∧(QQ e k m).by_=e.by_:=by
  have h1:=Qhn (Zb e m) k
  have h2:=Qhm e m
  unfold QQ
  dsimp only
  split
  ·exact ⟨h1.1.trans h2.1,h1.2.trans h2.2⟩
  ·exact ⟨h1.1.trans h2.1,h1.2.trans h2.2⟩
 unfold ansE at h
 split at h
 ·split at h
  ·split at h
   ·injection h with h _;injection h with h _
    subst h
    exact flB_bu ha.1 ha.2 j
   ·injection h with h _
    have h':=congrArg Prod.fst h
    dsimp only at h'
    rw [←h']
    unfold Yt
    split
    ·rename_i h1
     rw [Qdl (show (0:Int)≠4 by decide) (show (0:Int)≠5 by decide),Qdl (by rw [←ha.1,h1];decide) (by rw [←ha.1,h1];decide)]
    ·split
     ·rename_i h1
      rw [Qdl (show (0:Int)≠4 by decide) (show (0:Int)≠5 by decide),Qdl (by rw [←ha.1,h1];decide) (by rw [←ha.1,h1];decide)]
     ·exact flB_bu ha.1 ha.2 j
  ·injection h with _ h;cases h
 ·injection h with _ h;cases h
theorem AOk.kinds {li st st':Int} {l l':List Int} {ms:List Ms} (h:AOk li st l st' l' ms):∀m∈ms,m.kd≤3:=by
 cases h with
 |outM l m hk=>intro x hx;simp only [List.mem_singleton] at hx;subst hx;omega
 |_=>intro x hx;simp only [List.mem_singleton] at hx;subst hx;simp [ms4]
theorem Asks.kinds {n:Nat} {s s':Sta} {ms:List Ms} (h:Asks n s s' ms):∀m∈ms,m.kd≤3:=by
 rcases h with ⟨rfl,_⟩|⟨li,_,_,h,_⟩
 ·simp
 ·exact h.kinds
theorem fU_app {x:Pt} {s':Sta} {ms:List Ms} (h:∀m∈ms,m.kd≤3):fU {x with s:=s',up:=x.up++ms}=fU x:=by
 unfold fU
 have h0:ms.countP (fun m=>decide (4≤m.kd))=0:=List.countP_eq_zero.2 (fun m hm=>by have:=h m hm;simp;omega)
 rw [List.countP_append,h0,Nat.add_zero]
theorem ps_lt {S:Mst} {k:Nat} {x:Pt} (hx:S.ps[k]? =some x):k<S.ps.length:=(Vg hx).1
theorem fl_put {S:Mst} {k:Nat} {x y:Pt} (hx:S.ps[k]? =some x) (j:Nat) (h1:fU y=fU x) (h2:fD y=fD x):Fl (S.put (k:Int) y) j=Fl S j:=by
 unfold Fl Mst.put
 simp only [Int.toNat_natCast]
 rw [Yz (ps_lt hx)]
 split
 ·rename_i e;subst e;rw [h1,h2,Jv hx]
 ·rfl
theorem fl_sent {c:Cg} {ps:List Pt} (hl:ps.length=c.co) {o:Mk} {a:Ms} (ho:∀j:Nat,j<8→hasM o j=true→j<c.co) (j:Nat) (hj:j<c.co):fU (atP (Y9 ps (Xt o a)) j)=fU (atP ps j)∧fD (atP (Y9 ps (Xt o a)) j)=fD (atP ps j)+(if hasM o j=true∧a.kd=14 then 1 else 0):=by
 obtain ⟨_,h2⟩:=Qd0 o a ps (fun i hi hm=>by rw [hl];exact ho i hi hm)
 rw [h2 j (by rw [hl];exact hj)]
 by_cases hm:hasM o j=true
 ·rw [if_pos hm]
  refine ⟨rfl,?_⟩
  unfold fD
  rw [List.countP_append]
  by_cases h14:a.kd=14
  ·simp [hm,h14]
  ·simp [hm,h14]
 ·rw [if_neg hm]
  exact ⟨rfl,by simp [hm]⟩
section
variable {c:Cg} {n:Nat} {S:Mst} {cur:Nat→List Int} (h:Inv c n S cur)
include h
theorem fl_load (k li wd:Int) (j:Nat):Fl (loadM c S k li wd).1 j=Fl S j:=by
 unfold loadM
 cases hp:Xp c S k with
 |none=>rfl
 |some x=>
  obtain ⟨i,rfl,hj,hx,_,hP,_⟩:=h.port hp
  dsimp only
  split
  ·rename_i hl
   obtain ⟨_,b,_⟩:=hP.aj.loadF (X3.1 hl).2 wd
   exact fl_put hx j (fU_app b.kinds) rfl
  ·rfl
theorem fl_reach (k li:Int) (j:Nat):Fl (reachM c S k li).1 j=Fl S j:=by
 unfold reachM
 cases hp:Xp c S k with
 |none=>rfl
 |some x=>
  obtain ⟨i,rfl,hj,hx,_,hP,_⟩:=h.port hp
  dsimp only
  split
  ·rename_i hl
   split
   ·rfl
   ·obtain ⟨_,b⟩:=hP.aj.reachF (X3.1 hl).2
    exact fl_put hx j (fU_app b.kinds) rfl
  ·rfl
theorem fl_store (k li wd v:Int) (j:Nat):Fl (storeM c S k li wd v).1 j=Fl S j:=by
 unfold storeM
 cases hp:Xp c S k with
 |none=>rfl
 |some x=>
  obtain ⟨i,rfl,hj,hx,_,hP,_⟩:=h.port hp
  dsimp only
  split
  ·rename_i hl
   obtain ⟨_,b⟩:=hP.aj.storeF (X3.1 hl).2 wd v
   refine fl_put hx j (fU_app ?_) rfl
   rcases b with ⟨_,_,_,_,b,_⟩|⟨_,b⟩
   ·rw [b];simp
   ·exact b.kinds
  ·rfl
theorem fl_evict (k li:Int) (j:Nat):Fl (evictM c S k li).1 j=Fl S j:=by
 unfold evictM
 cases hp:Xp c S k with
 |none=>rfl
 |some x=>
  obtain ⟨i,rfl,hj,hx,_,hP,_⟩:=h.port hp
  dsimp only
  split
  ·rename_i hl
   obtain ⟨_,b⟩:=hP.aj.evictF li
   exact fl_put hx j (fU_app b.kinds) rfl
  ·rfl
theorem fl_flush (k:Nat) (li kd:Int) (j:Nat):Fl (flushM c S (k:Int) li kd).1 j=Fl S j+(if (flushM c S (k:Int) li kd).2.e=0∧k=j then 1 else 0):=by
 unfold flushM
 cases hp:Xp c S (k:Int) with
 |none=>simp [didE]
 |some x=>
  obtain ⟨i,hi,hj,hx,_,hP,_⟩:=h.port hp
  obtain rfl:k=i:=by omega
  dsimp only
  split
  ·rename_i hl
   unfold Fl Mst.put
   simp only [Int.toNat_natCast]
   rw [Yz (ps_lt hx)]
   by_cases e:k=j
   ·subst e
    rw [if_pos rfl,if_pos ⟨rfl,rfl⟩,Jv hx]
    have:fU {x with up:=x.up++[ms4 kd li false false]}=fU x+1:=by
     unfold fU
     rw [List.countP_append]
     have:decide (4≤(ms4 kd li false false).kd)=true:=by
      show decide (4≤kd)=true
      rcases hl.2 with h|h<;>rw [h]<;>rfl
     simp [this]
    rw [this]
    show fU x+1+fE S.en k+fD x=_
    omega
   ·rw [if_neg (fun e'=>e e'.symm),if_neg (fun e'=>e e'.2)]
    rfl
  ·simp [didE]
theorem fl_up (k:Int) (j:Nat) (hj:j<c.co):Fl (upM c S k).1 j=Fl S j:=by
 unfold upM
 cases hp:Xp c S k with
 |none=>rfl
 |some x=>
  obtain ⟨i,rfl,hi,hx,hat,hP,_⟩:=h.port hp
  dsimp only
  cases hu:x.up with
  |nil=>rfl
  |cons m rest=>
   obtain ⟨q,e,hq,hqc,he,hc⟩:=h.up hi hx hu
   have eq:q=m.li.toNat:=by omega
   subst eq
   dsimp only
   rw [he]
   dsimp only
   rcases hc with ⟨_,h2⟩|⟨h0,o,a,e',h2,ha,ho,h3⟩
   ·rw [h2,if_neg (by decide)]
   ·rw [h2,if_pos rfl]
    have hlen:(S.ps.set (i:Int).toNat {x with up:=rest}).length=c.co:=by rw [List.length_set];exact h.co
    obtain ⟨s1,s2⟩:=fl_sent hlen ho j hj (a:=a)
    unfold Fl
    dsimp only
    rw [s1,s2,if_neg (fun e=>ha.2.2.2 e.2),Nat.add_zero]
    simp only [Int.toNat_natCast]
    obtain ⟨_,m2,_⟩:=hP.fu m (by rw [hu];simp)
    have hfe:=fE_set (e':=e') he j
    have hfb:flB e j=false:=Qdl (by omega) (by omega) j
    have hfd:flB e' j=(decide (4≤m.kd)&&decide (i=j)):=by
     have hb0:(Qce e (lnG S.X m.li.toNat) (Qa8 _ _)).bu=0:=by rw [(hereP_bu _ _ _).1];exact h0
     have h4:=congrArg (fun z=>z.1.1) h2
     unfold askE at h4
     unfold askE at h2
     split at h2
     ·rename_i hA
      rw [if_pos hA] at h4
      split at h2
      ·injection h2 with _ h2;cases h2
      ·rename_i hB
       rw [if_neg hB] at h4
       split at h2
       ·injection h2 with _ h2;cases h2
       ·rename_i hC
        rw [if_neg hC] at h4
        dsimp only at h4
        rw [←h4]
        exact deed_fl hb0 i m2 j
     ·injection h2 with _ h2;cases h2
    rw [hfb,hfd] at hfe
    rw [Yz (ps_lt hx)]
    have hcount:fU x=fU {x with up:=rest}+(if 4≤m.kd then 1 else 0):=by
     unfold fU
     rw [hu,List.countP_cons]
     simp
    by_cases e1:j=i
    ·subst e1
     rw [if_pos rfl,hat]
     have:fD {x with up:=rest}=fD x:=rfl
     rw [this,hcount]
     by_cases e4:4≤m.kd
     ·simp [e4] at hfe ⊢;omega
     ·simp [e4] at hfe ⊢;omega
    ·rw [if_neg e1]
     have:¬i=j:=fun e=>e1 e.symm
     simp [this] at hfe
     omega
theorem fl_answer (k:Int) (j:Nat) (hj:j<c.co):Fl (answerM c S k).1 j=Fl S j:=by
 unfold answerM
 cases hp:Xp c S k with
 |none=>rfl
 |some x=>
  obtain ⟨i,rfl,hi,hx,hat,hP,_⟩:=h.port hp
  dsimp only
  cases hu:x.an with
  |nil=>rfl
  |cons m rest=>
   obtain ⟨q,e,hq,hqc,he,o,a,e',h2,ha,ho,_⟩:=h.answer hi hx hu
   dsimp only
   rw [hq,Int.toNat_natCast,he]
   dsimp only
   rw [h2,if_pos rfl]
   have hlen:(S.ps.set (i:Int).toNat {x with an:=rest}).length=c.co:=by rw [List.length_set];exact h.co
   obtain ⟨s1,s2⟩:=fl_sent hlen ho j hj (a:=a)
   unfold Fl
   dsimp only
   simp only [Int.toNat_natCast] at s1 s2 ⊢
   rw [s1,s2,if_neg (fun e=>ha.2.2.2 e.2),Nat.add_zero,fE_same he (ans_fl h2 j),Yz (ps_lt hx)]
   by_cases e1:j=i
   ·subst e1
    rw [if_pos rfl,hat]
    rfl
   ·rw [if_neg e1]
theorem hear_parts (k:Nat):((hearM c S (k:Int)).2.e≠0∧(hearM c S (k:Int)).1=S)∨∃x m rest s' an',k<c.co∧S.ps[k]? =some x∧x.dn=m::rest∧(hearM c S (k:Int)).2.e=0∧(hearM c S (k:Int)).2.m=m∧(hearM c S (k:Int)).1=S.put (k:Int) {x with s:=s',an:=an',dn:=rest}:=by
 unfold hearM
 cases hp:Xp c S (k:Int) with
 |none=>exact .inl ⟨show (1:Int)≠0 by decide,rfl⟩
 |some x=>
  obtain ⟨i,hi,hj,hx,hat,hP,_⟩:=h.port hp
  obtain rfl:k=i:=by omega
  dsimp only
  cases hd:x.dn with
  |nil=>exact .inl ⟨show (14:Int)≠0 by decide,rfl⟩
  |cons m rest=>
   obtain ⟨_,h2,_⟩:=h.hear hj hx hd
   dsimp only
   rw [h2,if_pos rfl]
   exact .inr ⟨x,m,rest,_,_,hj,hx,hd,rfl,rfl,rfl⟩
theorem fl_hear (k:Nat) (j:Nat):Fl (hearM c S (k:Int)).1 j+(if (hearM c S (k:Int)).2.e=0∧(hearM c S (k:Int)).2.m.kd=14∧k=j then 1 else 0)=Fl S j:=by
 rcases hear_parts h k with ⟨h1,h2⟩|⟨x,m,rest,s',an',_,hx,hd,h0,hm,hS⟩
 ·rw [h2,if_neg (fun e=>h1 e.1)];rfl
 ·rw [hS,hm,h0]
  unfold Fl Mst.put
  simp only [Int.toNat_natCast]
  rw [Yz (ps_lt hx)]
  have hcount:fD x=fD {x with s:=s',an:=an',dn:=rest}+(if m.kd=14 then 1 else 0):=by
   unfold fD
   rw [hd,List.countP_cons]
   simp
  by_cases e1:k=j
  ·subst e1
   rw [if_pos rfl,Jv hx]
   show fU x+fE S.en k+fD {x with s:=s',an:=an',dn:=rest}+_=_
   rw [hcount]
   by_cases e14:m.kd=14
   ·simp [e14];omega
   ·simp [e14]
  ·rw [if_neg (fun e=>e1 e.symm)]
   simp [e1]
theorem fl_push (li:Int) (j:Nat) (hj:j<c.co):Fl (pushM c S li).1 j=Fl S j:=by
 unfold pushM
 split
 ·rename_i hl
  obtain ⟨e,he,_⟩:=h.entry (i:=li.toNat) (by have:=X3.1 hl;omega)
  rw [he]
  dsimp only
  split
  ·rename_i hr
   split
   ·obtain ⟨hb1,hb2,_,_⟩:=h.push (by have:=X3.1 hl;omega) he hr
    have ho:∀q:Nat,q<8→hasM (bitM e.by_) q=true→q<c.co:=by
     intro q _ hq
     rw [XX _ hb1] at hq
     have:=of_decide_eq_true hq
     omega
    obtain ⟨s1,s2⟩:=fl_sent h.co ho j hj (a:=ms4 14 li false false)
    unfold Fl
    dsimp only
    rw [s1,s2,XX _ hb1]
    have hfe:=fE_set (e':=(Jf e).setDi false) he j
    rw [Qdl (e:=(Jf e).setDi false) (show (0:Int)≠4 by decide) (show (0:Int)≠5 by decide)] at hfe
    have hbu:(e.bu==4||e.bu==5)=true:=by
     simp only [JJ,Bool.and_eq_true] at hr
     exact hr.1.2
    have hfb:flB e j=decide (e.by_=(j:Int)):=by
     unfold flB
     rw [hbu,Bool.true_and]
     rfl
    rw [hfb] at hfe
    have h14:(ms4 14 li false false).kd=14:=rfl
    by_cases hby:e.by_=(j:Int)
    ·simp [hby,h14] at hfe ⊢;omega
    ·simp [hby] at hfe ⊢;omega
   ·rfl
  ·rfl
 ·rfl
theorem fl_drop (li:Int) (j:Nat):Fl (dropM c S li).1 j=Fl S j:=by
 unfold dropM
 split
 ·rename_i hl
  obtain ⟨e,he,_⟩:=h.entry (i:=li.toNat) (by have:=X3.1 hl;omega)
  rw [he]
  dsimp only
  split
  ·rfl
  ·rename_i hk
   split
   ·unfold Fl
    dsimp only
    rw [fE_same he]
    rw [Qdl (e:=enE) (by decide) (by decide),Qdl]
    ·intro e4;apply hk;simp [Qdb,e4]
    ·intro e5;apply hk;simp [Qdb,e5]
   ·rfl
 ·rfl
theorem fl_drain (li:Int) (j:Nat):Fl (drainM c S li).1 j=Fl S j:=by
 unfold drainM
 split<;>rfl
end
theorem fl_fresh (c:Cg) (xs:List Int) (es:List Ent) (j:Nat):Fl ⟨List.replicate c.co (pt0 c),List.replicate c.li enE,es,xs⟩ j=0:=by
 unfold Fl
 have h1:fE (List.replicate c.li enE) j=0:=by
  unfold fE
  rw [List.countP_eq_zero]
  intro e he
  rw [List.eq_of_mem_replicate he,Qdl (by decide) (by decide)]
  decide
 have h2:fU (atP (List.replicate c.co (pt0 c)) j)=0∧fD (atP (List.replicate c.co (pt0 c)) j)=0:=by
  unfold atP
  rw [List.getD_eq_getElem?_getD,List.getElem?_replicate]
  split<;>exact ⟨rfl,rfl⟩
 dsimp only
 rw [h1,h2.1,h2.2]
theorem Qfb (b:Nat):∀(n:Nat) (l:List Ms),(∀m∈l,0≤m.li∧m.li<(n:Int))→(∀i,i<n→(l.filter (fun m=>m.li==(i:Int))).length≤b)→l.length≤n*b
 |0,l,h,_=>by
  cases l with
  |nil=>simp
  |cons m l=>have:=h m (by simp);omega
 |n+1,l,h,hb=>by
  have e:=List.length_eq_countP_add_countP (fun m:Ms=>m.li==(n:Int)) (l:=l)
  rw [List.countP_eq_length_filter,List.countP_eq_length_filter] at e
  have h1:=hb n (by omega)
  have h2:=Qfb b n (l.filter (fun m=>!(m.li==(n:Int)))) (fun m hm=>by
   rw [List.mem_filter] at hm
   have:=h m hm.1
   have h3:=hm.2
   simp at h3
   push_cast at this
   omega) (fun i hi=>by
   rw [List.filter_filter]
   refine Nat.le_trans ?_ (hb i (by omega))
   have:(fun m:Ms=>(m.li==(i:Int)&&!(m.li==(n:Int))))=(fun m:Ms=>m.li==(i:Int)):=by
    funext m
    by_cases hmi:m.li=(i:Int)
    ·have:m.li≠(n:Int):=by omega
     simp [hmi];omega
    ·simp [hmi]
   rw [this]
   exact Nat.le_refl _)
  have h3:(fun m:Ms=>decide ¬(m.li==(n:Int))=true)=(fun m:Ms=>!(m.li==(n:Int))):=by
   funext m
   cases m.li==(n:Int)<;>rfl
  rw [h3] at e
  rw [Nat.add_mul,Nat.one_mul]
  omega
theorem Rel.lens {cur el:List Int} {kt:Int} {ow sh w:Bool} {b st:Nat} {l:List Int} {U N D:List Ms} (h:Rel cur el kt ow sh w b st l U N D):U.length≤1∧N.length≤1∧D.length≤2:=by
 have hB:∀{ow sh:Bool} {b st:Nat} {l:List Int} {U D:List Ms},Bs cur el ow sh b st l U D→U.length≤1∧D.length≤1:=by
  intro ow sh b st l U D h
  cases h<;>exact ⟨by simp,by simp⟩
 have hI:∀{st:Nat} {U:List Ms},InU st U→U.length≤1:=by intro st U h;cases h<;>simp
 have hK:∀{st:Nat} {l U:_},KeU cur st l U→U.length≤1:=by intro st l U h;cases h<;>simp
 cases h with
 |base h=>have:=hB h;exact ⟨this.1,by simp,by omega⟩
 |told a h=>have:=hB h;exact ⟨this.1,by simp,by rw [List.length_append,List.length_singleton];omega⟩
 |ack a h=>
  refine ⟨?_,by simp,by simp⟩
  cases h with
  |inv _ _ _ _ _ _ _ _ _ _ hU=>exact hI hU
  |dnK _ _ _ _ _ _ _ hU=>exact hK hU
  |dnG=>simp
theorem Roomy.ofFl {c:Cg} {n:Nat} {S:Mst} {cur:Nat→List Int} (h:Inv c n S cur) (hF:∀j,j<c.co→Fl S j≤100):Roomy c S:=by
 intro j hj
 have hP:=h.pt j hj
 have h64:=h.ok.li64
 have hfl:=hF j hj
 have hrel:∀i,i<c.li→(upL (atP S.ps j) i).length≤1∧(anL (atP S.ps j) i).length≤1∧(dnL (atP S.ps j) i).length≤2:=by
  intro i hi
  obtain ⟨e,he,hl⟩:=h.entry hi
  exact (hl.rel j hj).lens
 have b0:∀{m:Ms},mg m=true→m.li<c.li→0≤m.li∧m.li<((c.li:Nat):Int):=fun hm hl=>⟨(mg_line hm).1,hl⟩
 have hup:((atP S.ps j).up.filter (fun m=>decide (m.kd≤3))).length≤c.li*1:=by
  refine Qfb 1 c.li _ (fun m hm=>?_) (fun i hi=>?_)
  ·obtain ⟨h1,_,h3⟩:=hP.fu m (List.mem_filter.1 hm).1
   exact b0 h1 h3
  ·rw [List.filter_filter];exact (hrel i hi).1
 have han:(atP S.ps j).an.length≤c.li*1:=by
  refine Qfb 1 c.li _ (fun m hm=>?_) (fun i hi=>(hrel i hi).2.1)
  obtain ⟨h1,_,h3⟩:=hP.fa m hm
  exact b0 h1 h3
 have hdn:((atP S.ps j).dn.filter (fun m=>m.kd !=14)).length≤c.li*2:=by
  refine Qfb 2 c.li _ (fun m hm=>?_) (fun i hi=>?_)
  ·obtain ⟨h1,_,h3⟩:=hP.fd m (List.mem_filter.1 hm).1
   exact b0 h1 h3
  ·rw [List.filter_filter];exact (hrel i hi).2.2
 have e1:=List.length_eq_countP_add_countP (fun m:Ms=>decide (m.kd≤3)) (l:=(atP S.ps j).up)
 have e2:=List.length_eq_countP_add_countP (fun m:Ms=>m.kd !=14) (l:=(atP S.ps j).dn)
 have f1:(atP S.ps j).up.countP (fun m=>decide ¬decide (m.kd≤3)=true)=fU (atP S.ps j):=by
  unfold fU
  apply List.countP_congr
  intro m _
  simp
  omega
 have f2:(atP S.ps j).dn.countP (fun m=>decide ¬(m.kd !=14)=true)=fD (atP S.ps j):=by
  unfold fD
  apply List.countP_congr
  intro m _
  simp
 rw [f1,List.countP_eq_length_filter] at e1
 rw [f2,List.countP_eq_length_filter] at e2
 unfold Fl at hfl
 omega
end
section
section
variable {c:Cg} {n:Nat} {S:Mst} {cur:Nat→List Int} (h:Inv c n S cur)
include h
theorem Inv.reads {j:Nat} (hj:j<c.co) {li:Int} (hs:(vw (atP S.ps j).s li).1=1∨(vw (atP S.ps j).s li).1=2∨(vw (atP S.ps j).s li).1=3∨(vw (atP S.ps j).s li).1=6):
 ∃(i:Nat) (e:En),li=(i:Int)∧i<c.li∧S.en[i]? =some e∧(vw (atP S.ps j).s li).2=cur i∧(e.ow=(j:Int)∨hasM e.sh j=true)∧(((vw (atP S.ps j).s li).1=2∨(vw (atP S.ps j).s li).1=3)→e.ow=(j:Int))∧∀p:Nat,e.ow=(p:Int)→e.sh=0#8:=by
 have hp:=h.pt j hj
 obtain ⟨l0,l1,_,_⟩:=hp.aj.line (li:=li) (by omega)
 obtain ⟨i,rfl⟩:∃i:Nat,li=(i:Int):=⟨li.toNat,by omega⟩
 obtain ⟨e,he,hl⟩:=h.entry (i:=i) (by omega)
 have hr:=hl.rel j hj
 have hst:vst (atP S.ps j) i=1∨vst (atP S.ps j) i=2∨vst (atP S.ps j) i=3∨vst (atP S.ps j) i=6:=by unfold vst;omega
 obtain ⟨a,b,d⟩:=hr.reads hst
 refine ⟨i,e,rfl,by omega,he,a,?_,fun h2=>?_,fun p hp=>(LI.ow_ne hl hp).2.1⟩
 ·rcases b with b|b
  ·exact .inl (by simpa using b)
  ·exact .inr b
 ·have:=d (by unfold vst;omega)
  simpa using this
theorem Inv.loadHit (k li wd:Int) (hh:(Go.Proofs.YtcgjofbkcgedfaaGreatDoor.loadM c S k li wd).2.hit=true):inB k c.co=true∧inB li c.li=true∧isWd wd=true∧(Go.Proofs.YtcgjofbkcgedfaaGreatDoor.loadM c S k li wd).2.v=(cur li.toNat).getD wd.toNat 0:=by
 unfold Go.Proofs.YtcgjofbkcgedfaaGreatDoor.loadM at hh ⊢
 cases hp:Xp c S k with
 |none=>rw [hp] at hh;exact absurd (show false=true from hh) (by decide)
 |some x=>
  rw [hp] at hh
  obtain ⟨j,rfl,hj,hx,hat,hP,hb⟩:=h.port hp
  dsimp only at hh ⊢
  by_cases hl:inB li c.li=true
  ·rw [if_pos hl] at hh ⊢
   obtain ⟨_,_,hv⟩:=hP.aj.loadF (X3.1 hl).2 wd
   obtain ⟨m1,m2,m3,m4⟩:=hv hh
   have hst:(vw (atP S.ps j).s li).1=1∨(vw (atP S.ps j).s li).1=2∨(vw (atP S.ps j).s li).1=3∨(vw (atP S.ps j).s li).1=6:=by
    rw [hat]
    unfold mayR at m1
    rw [Bool.or_eq_true,rest_iff,beq_iff_eq] at m1
    omega
   obtain ⟨i,e,rfl,_,_,q,_⟩:=h.reads hj hst
   rw [hat] at q
   refine ⟨hb,hl,m2,?_⟩
   rw [Int.toNat_natCast,←q]
   exact m4
  ·rw [if_neg hl] at hh
   exact absurd (show false=true from hh) (by decide)
end
theorem bk_cell {xs:List Int} {k:Nat} {v:Int} (h:xs[k]? =some v) (r:List Value):(bk xs r)[k]? =some (.int .u64 v):=by
 obtain ⟨hk,rfl⟩:=Vg h
 unfold bk
 rw [List.getElem?_toArray,List.getElem?_append_left (by simpa using hk),List.getElem?_map,h];rfl
end
end Go.Proofs.YtcgjofbkcgedfaaGreatDoor
