/- Texts of the walk, one behind the other: Prd Pre Prf Cop Cor Isa. No condition. -/
import Derived.Test.YtlidfghgjjffaaaGreatDoorMQaa
import Derived.Test.YtlidfghgjjffaaaGreatDoorMQab
import Derived.Test.YtlidfghgjjffaaaGreatDoorMQai
import Derived.Test.YtlidfghgjjffaaaGreatDoorMQak
import Derived.Test.YtlidfghgjjffaaaGreatDoorMQal
import Derived.BigQuiet
import Derived.Deep.QuietTactic
import Derived.Test.YtlidfghgjjffaaaGreatDoorChecked
import Derived.WalkKit
namespace Go.Proofs.YtlidfghgjjffaaaGreatDoor
open Go.RowKit
set_option linter.unusedVariables false
set_option maxHeartbeats 1000000
section
structure Mst where
 ps:List Pt
 en:List En
 es:List Ent
 xs:List Int
def Mst.X (S:Mst):List Int:=over S.xs S.es
def upL (x:Pt) (i:Nat):List Ms:=x.up.filter (fun m=>m.li==(i:Int)&&decide (m.kd≤3))
def anL (x:Pt) (i:Nat):List Ms:=x.an.filter (fun m=>m.li==(i:Int))
def dnL (x:Pt) (i:Nat):List Ms:=x.dn.filter (fun m=>m.li==(i:Int)&&m.kd !=14)
def vst (x:Pt) (i:Nat):Nat:=(vw x.s i).1.toNat
def vln (x:Pt) (i:Nat):List Int:=(vw x.s i).2
def ptN:Pt:=⟨([],0),[],[],[]⟩
def atP (ps:List Pt) (j:Nat):Pt:=ps.getD j ptN
theorem JB {ps:List Pt} {k:Nat} {x:Pt} (h:ps[k]? =some x):atP ps k=x:=by simp [atP,List.getD,h]
theorem atP_mem {ps:List Pt} {k:Nat} (h:k<ps.length):ps[k]? =some (atP ps k):=by
 rw [atP,List.getD_eq_getElem?_getD,List.getElem?_eq_getElem h];rfl
theorem YV {ps:List Pt} {k:Nat} (h:k<ps.length) (x:Pt) (j:Nat):atP (ps.set k x) j=if j=k then x else atP ps j:=by
 unfold atP
 rw [List.getD_eq_getElem?_getD,List.getD_eq_getElem?_getD,List.getElem?_set]
 by_cases hj:k=j
 ·subst hj;simp [h]
 ·rw [if_neg hj,if_neg (fun e=>hj e.symm)]
def LinI (co:Nat) (ps:List Pt) (cur X:List Int) (i:Nat) (e:En):Prop:=
 LI co cur X e (fun j=>vst (atP ps j) i) (fun j=>vln (atP ps j) i) (fun j=>upL (atP ps j) i) (fun j=>anL (atP ps j) i) (fun j=>dnL (atP ps j) i)
theorem LI.with {co:Nat} {cur X:List Int} {e:En} {st st':Nat→Nat} {l l':Nat→List Int} {U N D U' N' D':Nat→List Ms} (h:LI co cur X e st l U N D)
 (hr:∀j:Nat,j<co→Rel cur e.l (ktOf e) (decide (e.ow=(j:Int))) (hasM e.sh j) (hasM e.wa j) (bOf e j) (st' j) (l' j) (U' j) (N' j) (D' j)):LI co cur X e st' l' U' N' D':=
 ⟨h.good,h.lo,hr,h.data,h.mem0,h.mem1,h.wait1,h.wait2⟩
theorem LinI.same {co:Nat} {ps ps':List Pt} {cur X:List Int} {i:Nat} {e:En} (h:LinI co ps cur X i e) (hs:∀j,j<co→vst (atP ps' j) i=vst (atP ps j) i∧vln (atP ps' j) i=vln (atP ps j) i∧upL (atP ps' j) i=upL (atP ps j) i∧anL (atP ps' j) i=anL (atP ps j) i∧dnL (atP ps' j) i=dnL (atP ps j) i):LinI co ps' cur X i e:=by
 refine h.with fun j hj=>?_
 obtain ⟨h1,h2,h3,h4,h5⟩:=hs j hj
 rw [h1,h2,h3,h4,h5]
 exact h.rel j hj
theorem AOk.msg {li:Int} {st st':Int} {l l':List Int} {ms:List Ms} (h:AOk li st l st' l' ms) (hl:Qc8 li=true):∃m,ms=[m]∧m.li=li∧m.kd≤3∧Qeq m.kd=true∧mg m=true:=by
 cases h with
 |askS=>exact ⟨_,rfl,rfl,by simp [ms4],rfl,by simp [mg,ms4,Qc9,hl]⟩
 |askM=>exact ⟨_,rfl,rfl,by simp [ms4],rfl,by simp [mg,ms4,Qc9,hl]⟩
 |up=>exact ⟨_,rfl,rfl,by simp [ms4],rfl,by simp [mg,ms4,Qc9,hl]⟩
 |outS=>exact ⟨_,rfl,rfl,by simp [ms4],rfl,by simp [mg,ms4,Qc9,hl]⟩
 |outE=>exact ⟨_,rfl,rfl,by simp [ms4],rfl,by simp [mg,ms4,Qc9,hl]⟩
 |outM l m hk hli hd hke hm=>exact ⟨_,rfl,hli,by omega,by rw [hk];rfl,by simp [mg,hk,hli,hd,hke,Qc9,mayD,hl]⟩
section
variable {co:Nat} {ps:List Pt} {cur X:List Int} {i:Nat} {e:En}
theorem LinI.ag (h:LinI co ps cur X i e) {n k:Nat} {x:Pt} (hn:n≤64) (hx:ps[k]? =some x) {s':Sta} {ms:List Ms} (ha:Asks n x.s s' ms):LinI co (ps.set k {x with s:=s',up:=x.up++ms}) cur X i e:=by
 have hk:=(Vg hx).1
 refine h.with fun j hj=>?_
 have hr:=h.rel j hj
 simp only [YV hk]
 by_cases hjk:j=k
 ·subst hjk
  simp only [JB hx] at hr
  simp only [if_true]
  rcases ha with ⟨rfl,hv⟩|⟨li,h0,hn',ha,ho⟩
  ·have e1:vst {x with s:=s',up:=x.up++[]} i=vst x i:=by unfold vst;rw [hv]
   have e2:vln {x with s:=s',up:=x.up++[]} i=vln x i:=by unfold vln;rw [hv]
   have e3:upL {x with s:=s',up:=x.up++[]} i=upL x i:=by unfold upL;rw [List.append_nil]
   rw [e1,e2,e3];exact hr
  ·obtain ⟨m,hm,hml,hmk,_⟩:=ha.msg (by unfold Qc8;simp;omega)
   have e3:upL {x with s:=s',up:=x.up++ms} i=upL x i++ms.filter (fun m=>m.li==(i:Int)&&decide (m.kd≤3)):=by unfold upL;rw [List.filter_append]
   rw [e3]
   by_cases hi:li=(i:Int)
   ·subst hi
    have h2:=hr.ask ha.nat
    have e4:ms.filter (fun m=>m.li==(i:Int)&&decide (m.kd≤3))=ms:=by rw [hm];simp [hml,hmk]
    rw [e4]
    exact h2
   ·have e4:ms.filter (fun m=>m.li==(i:Int)&&decide (m.kd≤3))=[]:=by rw [hm];simp [hml,hi]
    have hv:=ho (i:Int) (fun e=>hi e.symm)
    have e1:vst {x with s:=s',up:=x.up++ms} i=vst x i:=by unfold vst;rw [hv]
    have e2:vln {x with s:=s',up:=x.up++ms} i=vln x i:=by unfold vln;rw [hv]
    rw [e4,List.append_nil,e1,e2];exact hr
 ·simp only [hjk,if_false];exact hr
theorem LI.ow_ne {co:Nat} {cur X:List Int} {e:En} {st:Nat→Nat} {l:Nat→List Int} {U N D:Nat→List Ms} (h:LI co cur X e st l U N D) {k:Nat} (hk:e.ow=(k:Int)):e.he=true∧e.sh=0#8∧∀j:Nat,j≠k→e.ow≠(j:Int):=by
 have hh:e.he=true:=by
  cases hh:e.he
  ·have he:e=enE:=by
    have:=h.good
    unfold JN at this
    rw [if_neg (by simp [hh])] at this
    simpa using this
   rw [he] at hk
   have:(-1:Int)=(k:Int):=hk
   omega
  ·rfl
 obtain ⟨g1,_⟩:=(YX hh).1 h.good
 refine ⟨hh,?_,fun j hj=>by omega⟩
 rcases g1 with h1|h1
 ·omega
 ·exact h1.2
theorem LinI.write (h:LinI co ps cur X i e) {k:Nat} {x:Pt} (hkc:k<co) (hx:ps[k]? =some x) {s':Sta} (cur':List Int) (hs:(vw x.s i).1=2∨(vw x.s i).1=3) (hv:vw s' i=(3,cur')):LinI co (ps.set k {x with s:=s'}) cur' X i e∧vln x i=cur:=by
 have hk:=(Vg hx).1
 have hrk:=h.rel k hkc
 simp only [JB hx] at hrk
 have hst:vst x i=2∨vst x i=3:=by unfold vst;omega
 obtain ⟨r1,r2,r3⟩:=hrk.write hst cur'
 have how:e.ow=(k:Int):=by simpa using r3
 obtain ⟨hh,hsh,hne⟩:=h.ow_ne how
 refine ⟨⟨h.good,h.lo,fun j hj=>?_,fun _ h1=>by omega,fun h1=>absurd (hh.symm.trans h1) (by decide),h.mem1,h.wait1,h.wait2⟩,r2⟩
 have hr:=h.rel j hj
 simp only [YV hk]
 by_cases hjk:j=k
 ·subst hjk
  simp only [if_true]
  have e1:vst {x with s:=s'} i=3:=by unfold vst;rw [hv];rfl
  have e2:vln {x with s:=s'} i=cur':=by unfold vln;rw [hv]
  rw [e1,e2]
  exact r1
 ·simp only [hjk,if_false]
  rw [decide_eq_false (hne j hjk),hsh,ZW] at hr ⊢
  obtain ⟨h1,h2,h3⟩:=hr.none cur' e.l (ktOf e)
  rw [h1,h2];exact h3
theorem LinI.writeOff (h:LinI co ps cur X i e) {k:Nat} {x:Pt} (hx:ps[k]? =some x) {s':Sta} (hv:vw s' i=vw x.s i):LinI co (ps.set k {x with s:=s'}) cur X i e:=by
 have hk:=(Vg hx).1
 refine h.same fun j hj=>?_
 simp only [YV hk]
 by_cases hjk:j=k
 ·subst hjk
  simp only [if_true,JB hx]
  exact ⟨by unfold vst;rw [hv],by unfold vln;rw [hv],rfl,rfl,rfl⟩
 ·simp only [hjk,if_false,and_self]
theorem hv_ex (m:Ms) (x:Slt):∃st' l',HV m x st' l':=by
 refine ⟨if tb m.kd x.st=10 then 0 else if tb m.kd x.st=11 then x.st else tb m.kd x.st,if tb m.kd x.st=11 then x.l else Y4 m x (tb m.kd x.st),fun h=>by rw [if_pos h],fun h=>?_,fun h1 h2=>?_⟩
 ·rw [if_neg (by omega),if_pos h,if_pos h];exact ⟨rfl,rfl⟩
 ·rw [if_neg h1,if_neg h2,if_neg h2];exact ⟨rfl,rfl⟩
theorem dnL_cons {x:Pt} {m:Ms} {rest:List Ms} (hd:x.dn=m::rest) (i:Nat) (hm:m.li=(i:Int)) (h14:m.kd≠14):dnL x i=m::dnL {x with dn:=rest} i:=by
 unfold dnL
 rw [hd,List.filter_cons,if_pos (by simp [hm,h14])]
theorem dnL_skip {x:Pt} {m:Ms} {rest:List Ms} (hd:x.dn=m::rest) (i:Nat) (hm:m.li≠(i:Int)∨m.kd=14):dnL x i=dnL {x with dn:=rest} i:=by
 unfold dnL
 rw [hd,List.filter_cons,if_neg (by rcases hm with h|h<;>simp [h])]
theorem LinI.fits (h:LinI co ps cur X i e) {S N n k:Nat} {x:Pt} (hkc:k<co) (hx:ps[k]? =some x) (aj:AJ S N n x.s) {m:Ms} {rest:List Ms} (hd:x.dn=m::rest) (hm:m.li=(i:Int)):tb m.kd (vw x.s m.li).1≠0:=by
 by_cases h14:m.kd=14
 ·rw [h14];show (11:Int)≠0;decide
 ·have hr:=h.rel k hkc
  simp only [JB hx,dnL_cons hd i hm h14] at hr
  obtain ⟨st',l',hv⟩:=hv_ex m (Qy x.s.1 m.li)
  have h0:=(aj.sane1 m.li).1
  have hr':Rel cur e.l (ktOf e) (decide (e.ow=(k:Int))) (hasM e.sh k) (hasM e.wa k) (bOf e k) (Qy x.s.1 m.li).st.toNat (Qy x.s.1 m.li).l (upL x i) (anL x i) (m::dnL {x with dn:=rest} i):=by
   have e1:vst x i=(Qy x.s.1 m.li).st.toNat:=by unfold vst vw;rw [hm]
   have e2:vln x i=(Qy x.s.1 m.li).l:=by unfold vln vw;rw [hm]
   rw [←e1,←e2];exact hr
  exact (hr'.hear h0 (ktOf_or e) hv).1
theorem LinI.hear (h:LinI co ps cur X i e) {S N n k:Nat} {x:Pt} (hx:ps[k]? =some x) (aj:AJ S N n x.s) {m:Ms} {rest:List Ms} (hd:x.dn=m::rest) (hg:(mg m&&Y5 m.kd)=true) (hn:m.li<n) (ht:tb m.kd (vw x.s m.li).1≠0):
 LinI co (ps.set k {x with s:=(hearF S N x.s m).1,an:=x.an++Xh m.kd (Qy x.s.1 m.li) (tb m.kd (vw x.s m.li).1),dn:=rest}) cur X i e:=by
 have hk:=(Vg hx).1
 obtain ⟨_,_,ho,v10,v11,vno⟩:=aj.hearF hg hn ht
 refine h.with fun j hj=>?_
 have hr:=h.rel j hj
 simp only [YV hk]
 by_cases hjk:j=k
 ·subst hjk
  simp only [JB hx] at hr
  simp only [if_true]
  generalize hs':(hearF S N x.s m).1=s' at *
  have hal:m.kd≠14→∀a∈Xh m.kd (Qy x.s.1 m.li) (tb m.kd (vw x.s m.li).1),a.li=m.li:=by
   intro h14 a ha
   have hl:=(aj.line (tb_line ht h14)).2.2.1
   have htl:∀kd ke,(JT kd (Qy x.s.1 m.li) ke).li=m.li:=by
    intro kd ke;unfold JT;split
    ·exact hl
    ·exact hl
   unfold Xh at ha
   split at ha
   ·rw [List.mem_singleton] at ha;rw [ha,htl]
   ·split at ha
    ·rw [List.mem_singleton] at ha;rw [ha,htl]
    ·cases ha
  have ean:∀av:List Ms,anL {x with s:=s',an:=x.an++av,dn:=rest} i=anL x i++av.filter (fun m=>m.li==(i:Int)):=by intro av;unfold anL;rw [List.filter_append]
  have eup:∀av:List Ms,upL {x with s:=s',an:=x.an++av,dn:=rest} i=upL x i:=fun _=>rfl
  have edn:∀av:List Ms,dnL {x with s:=s',an:=x.an++av,dn:=rest} i=dnL {x with dn:=rest} i:=fun _=>rfl
  have evs:∀av:List Ms,vst {x with s:=s',an:=x.an++av,dn:=rest} i=(vw s' i).1.toNat:=fun _=>rfl
  have evl:∀av:List Ms,vln {x with s:=s',an:=x.an++av,dn:=rest} i=(vw s' i).2:=fun _=>rfl
  rw [ean,eup,edn,evs,evl]
  by_cases h14:m.kd=14
  ·have e1:Xh m.kd (Qy x.s.1 m.li) (tb m.kd (vw x.s m.li).1)=[]:=by rw [h14];rfl
   have e2:vw s' i=vw x.s i:=by
    by_cases hi:m.li=(i:Int)
    ·rw [←hi];exact v11 (by rw [h14];rfl)
    ·exact ho _ (fun e=>hi e.symm)
   rw [e1,e2,←dnL_skip hd i (.inr h14)]
   simp only [List.filter_nil,List.append_nil]
   exact hr
  ·by_cases hi:m.li=(i:Int)
   ·rw [dnL_cons hd i hi h14] at hr
    have e1:(Xh m.kd (Qy x.s.1 m.li) (tb m.kd (vw x.s m.li).1)).filter (fun m=>m.li==(i:Int))=Xh m.kd (Qy x.s.1 m.li) (tb m.kd (vw x.s m.li).1):=by
     rw [List.filter_eq_self]
     intro a ha
     rw [hal h14 a ha];simpa using hi
    rw [e1]
    have e2:vst x i=(Qy x.s.1 m.li).st.toNat:=by unfold vst vw;rw [hi]
    have e3:vln x i=(Qy x.s.1 m.li).l:=by unfold vln vw;rw [hi]
    rw [e2,e3] at hr
    refine (hr.hear (aj.sane1 m.li).1 (ktOf_or e) (st':=(vw s' i).1) (l':=(vw s' i).2) ⟨fun h1=>?_,fun h1=>?_,fun h1 h2=>?_⟩).2
    ·rw [←hi];exact v10 h1
    ·rw [←hi,v11 h1];exact ⟨rfl,rfl⟩
    ·rw [←hi,vno h1 h2];exact ⟨rfl,rfl⟩
   ·have e1:(Xh m.kd (Qy x.s.1 m.li) (tb m.kd (vw x.s m.li).1)).filter (fun m=>m.li==(i:Int))=[]:=by
     rw [List.filter_eq_nil_iff]
     intro a ha
     rw [hal h14 a ha];simpa using hi
    rw [e1,ho _ (fun e=>hi e.symm),←dnL_skip hd i (.inl hi),List.append_nil]
    exact hr
 ·simp only [hjk,if_false];exact hr
theorem sendP_at (a:Ms):∀(cs:List Int) (ps:List Pt),cs.Nodup→(∀c∈cs,0≤c∧c<ps.length)→(Jf ps (cs.map fun c=>(⟨c,a⟩:Sd))).length=ps.length∧∀j:Nat,j<ps.length→atP (Jf ps (cs.map fun c=>(⟨c,a⟩:Sd))) j=if (j:Int)∈cs then {atP ps j with dn:=(atP ps j).dn++[a]} else atP ps j
 |[],ps,_,_=>⟨rfl,fun j _=>by simp [Jf]⟩
 |c::cs,ps,hn,hc=>by
  obtain ⟨hc1,hc2⟩:=hc c (by simp)
  obtain ⟨p,rfl⟩:∃p:Nat,c=(p:Int):=⟨c.toNat,by omega⟩
  have hp:p<ps.length:=by omega
  have e1:Jf ps (((p:Int)::cs).map fun c=>(⟨c,a⟩:Sd))=Jf (ps.set p {atP ps p with dn:=(atP ps p).dn++[a]}) (cs.map fun c=>(⟨c,a⟩:Sd)):=by
   unfold Jf
   rw [List.map_cons,List.foldl_cons]
   congr 1
   unfold Qh5
   show (match ps[(p:Int).toNat]? with|some x=>_|none=>_)=_
   rw [Int.toNat_natCast,atP_mem hp]
  rw [List.nodup_cons] at hn
  obtain ⟨h1,h2⟩:=sendP_at a cs (ps.set p {atP ps p with dn:=(atP ps p).dn++[a]}) hn.2 (fun c hc'=>by rw [List.length_set];exact hc c (by simp [hc']))
  rw [e1]
  refine ⟨by rw [h1,List.length_set],fun j hj=>?_⟩
  rw [h2 j (by rw [List.length_set];exact hj),YV hp]
  by_cases hjp:j=p
  ·subst hjp
   rw [if_neg hn.1,if_pos rfl,if_pos (by simp)]
  ·simp only [hjp,if_false]
   by_cases hm:(j:Int)∈cs
   ·rw [if_pos hm,if_pos (by simp [hm])]
   ·rw [if_neg hm,if_neg (by simp [hm];omega)]
theorem coresL_nodup (o:Mk):(Qbi o).Nodup:=by
 unfold Qbi Qa8
 exact List.Nodup.sublist List.filter_sublist (by decide)
theorem has_isC {o:Mk} {c:Int} (h:hasM o c=true):isC c=true:=by
 cases hc:isC c
 ·rw [Qgi hc] at h;cases h
 ·rfl
theorem Qd9 (o:Mk) (a:Ms) (ps:List Pt) (h:∀j:Nat,j<8→hasM o j=true→j<ps.length):(Jf ps (XC o a)).length=ps.length∧∀j:Nat,j<ps.length→atP (Jf ps (XC o a)) j=if hasM o j=true then {atP ps j with dn:=(atP ps j).dn++[a]} else atP ps j:=by
 have:=sendP_at a (Qbi o) ps (coresL_nodup o) (fun c hc=>by
  have h1:=(Qfj o c).1 hc
  obtain ⟨j,hj,rfl⟩:=J2 (has_isC h1)
  have:=h j hj h1
  omega)
 refine ⟨this.1,fun j hj=>?_⟩
 rw [show XC o a=(Qbi o).map fun c=>(⟨c,a⟩:Sd) from rfl,this.2 j hj]
 by_cases hm:hasM o (j:Int)=true
 ·rw [if_pos hm,if_pos ((Qfj o j).2 hm)]
 ·rw [if_neg hm,if_neg (fun h=>hm ((Qfj o j).1 h))]
theorem LinI.sent (h:LinI co ps cur X i e) (hl:ps.length=co) {o:Mk} {a:Ms} (ho:∀j:Nat,j<8→hasM o j=true→j<co) (ha:a.li≠(i:Int)∨a.kd=14):LinI co (Jf ps (XC o a)) cur X i e:=by
 obtain ⟨_,h2⟩:=Qd9 o a ps (by rw [hl];exact ho)
 refine h.same fun j hj=>?_
 rw [h2 j (by omega)]
 split
 ·refine ⟨rfl,rfl,rfl,rfl,?_⟩
  unfold dnL
  rw [List.filter_append]
  have:[a].filter (fun m=>m.li==(i:Int)&&m.kd !=14)=[]:=by rcases ha with ha|ha<;>simp [ha]
  rw [this,List.append_nil]
 ·exact ⟨rfl,rfl,rfl,rfl,rfl⟩
theorem LinI.sends {st:Nat→Nat} {l:Nat→List Int} {U N:Nat→List Ms} {D:Nat→List Ms} {e':En} {o:Mk} {a:Ms} (h:LI co cur X e' st l U N (fun j=>D j++if hasM o j=true then [a] else [])) (hl:ps.length=co) (ho:∀j:Nat,j<8→hasM o j=true→j<co) (ha:a.li=(i:Int)) (h14:a.kd≠14)
 (hs:∀j,j<co→vst (atP ps j) i=st j∧vln (atP ps j) i=l j∧upL (atP ps j) i=U j∧anL (atP ps j) i=N j∧dnL (atP ps j) i=D j):LinI co (Jf ps (XC o a)) cur X i e':=by
 obtain ⟨_,h2⟩:=Qd9 o a ps (by rw [hl];exact ho)
 refine h.with fun j hj=>?_
 have hr:=h.rel j hj
 obtain ⟨h3,h4,h5,h6,h7⟩:=hs j hj
 simp only [h2 j (show j<ps.length by omega)]
 rw [←h3,←h4,←h5,←h6,←h7] at hr
 by_cases hm:hasM o (j:Int)=true
 ·rw [if_pos hm]
  have e1:dnL {atP ps j with dn:=(atP ps j).dn++[a]} i=dnL (atP ps j) i++if hasM o (j:Int)=true then [a] else []:=by
   unfold dnL
   rw [List.filter_append,if_pos hm]
   congr 1
   simp [ha,h14]
  rw [e1];exact hr
 ·rw [if_neg hm]
  rw [if_neg hm,List.append_nil] at hr
  exact hr
theorem upL_cons {x:Pt} {m:Ms} {rest:List Ms} (hd:x.up=m::rest) (i:Nat) (hm:m.li=(i:Int)) (h3:m.kd≤3):upL x i=m::upL {x with up:=rest} i:=by
 unfold upL
 rw [hd,List.filter_cons,if_pos (by simp [hm,h3])]
theorem upL_skip {x:Pt} {m:Ms} {rest:List Ms} (hd:x.up=m::rest) (i:Nat) (hm:m.li≠(i:Int)∨¬m.kd≤3):upL x i=upL {x with up:=rest} i:=by
 unfold upL
 rw [hd,List.filter_cons,if_neg (by rcases hm with h|h<;>simp [h])]
theorem anL_cons {x:Pt} {m:Ms} {rest:List Ms} (hd:x.an=m::rest) (i:Nat) (hm:m.li=(i:Int)):anL x i=m::anL {x with an:=rest} i:=by
 unfold anL
 rw [hd,List.filter_cons,if_pos (by simp [hm])]
theorem anL_skip {x:Pt} {m:Ms} {rest:List Ms} (hd:x.an=m::rest) (i:Nat) (hm:m.li≠(i:Int)):anL x i=anL {x with an:=rest} i:=by
 unfold anL
 rw [hd,List.filter_cons,if_neg (by simp [hm])]
theorem LinI.up (h:LinI co ps cur X i e) (h8:co≤8) (hl:ps.length=co) (hX:X.length=8) (hb:e.bu=0) {k:Nat} {x:Pt} (hx:ps[k]? =some x) {m:Ms} {rest:List Ms} (hu:x.up=m::rest) (hm:Qeq m.kd=true) (hg:mg m=true) (hi:m.li=(i:Int)):
 ∃(o:Mk) (a:Ms) (e':En),askE (Qci e X hX) k m=((e',XC o a),0)∧Qew m.li a∧(∀j:Nat,j<8→hasM o j=true→j<co)∧LinI co (Jf (ps.set k {x with up:=rest}) (XC o a)) cur X i e':=by
 have hk:=(Vg hx).1
 obtain ⟨h1,hh,hbb⟩:=LI.here h hX
 have hb':(Qci e X hX).bu=0:=hbb.trans hb
 have hli:Qc8 m.li=true:=by simp only [mg,Bool.and_eq_true] at hg;exact hg.1.1.1.2
 obtain ⟨o,a,d1,d2,d3,d4⟩:=LI.deed h1 h8 hh hb' (k:=k) (by omega) hm hli (V:=upL {x with up:=rest} i) (fun h3=>by simp only [JB hx];exact upL_cons hu i hi h3)
 have harg:Qd3 (Qci e X hX) k m=true:=by simp [Qd3,h1.good,Qb8 (show k<8 by omega),hg,hm]
 refine ⟨o,a,(YT (Qci e X hX) k m).1,?_,d2,d3,?_⟩
 ·unfold askE
  rw [if_pos harg,if_neg (by rw [hb'];decide),if_neg (by rw [hh];decide),←d1]
 ·refine LinI.sends d4 (by rw [List.length_set];exact hl) d3 (by rw [d2.2.2.1,hi]) d2.2.2.2 fun j hj=>?_
  simp only [YV hk]
  by_cases hjk:j=k
  ·subst hjk
   simp only [if_true,JB hx,and_true]
   refine ⟨rfl,rfl,?_,rfl,rfl⟩
   by_cases h3:m.kd≤3
   ·simp only [h3,if_true]
   ·simp only [h3,if_false];exact (upL_skip hu i (.inr h3)).symm
  ·simp only [hjk,if_false,and_false,and_self]
theorem LinI.upOff (h:LinI co ps cur X i e) (hl:ps.length=co) {k:Nat} {x:Pt} (hx:ps[k]? =some x) {m:Ms} {rest:List Ms} (hu:x.up=m::rest) (hi:m.li≠(i:Int)) {o:Mk} {a:Ms} (ho:∀j:Nat,j<8→hasM o j=true→j<co) (ha:Qew m.li a):LinI co (Jf (ps.set k {x with up:=rest}) (XC o a)) cur X i e:=by
 have hk:=(Vg hx).1
 refine LinI.sent (h.same fun j hj=>?_) (by rw [List.length_set];exact hl) ho (.inl (by rw [ha.2.2.1];exact hi))
 simp only [YV hk]
 by_cases hjk:j=k
 ·subst hjk
  simp only [if_true,JB hx]
  exact ⟨rfl,rfl,(upL_skip hu i (.inl hi)).symm,rfl,rfl⟩
 ·simp only [hjk,if_false,and_self]
theorem LinI.answer (h:LinI co ps cur X i e) (h8:co≤8) (hl:ps.length=co) {k:Nat} {x:Pt} (hx:ps[k]? =some x) {m:Ms} {rest:List Ms} (hu:x.an=m::rest) (hm:Qbt m.kd=true) (hg:mg m=true) (hi:m.li=(i:Int)):
 ∃(o:Mk) (a:Ms) (e':En),ansE e k m=((e',XC o a),0)∧Qew m.li a∧(∀j:Nat,j<8→hasM o j=true→j<co)∧LinI co (Jf (ps.set k {x with an:=rest}) (XC o a)) cur X i e':=by
 have hk:=(Vg hx).1
 obtain ⟨o,a,d0,d1,d2,d3,d4⟩:=LI.answered h h8 (k:=k) (by omega) hm hg (V:=anL {x with an:=rest} i) (by simp only [JB hx];exact anL_cons hu i hi)
 refine ⟨o,a,(ansE e k m).1.1,?_,d2,d3,?_⟩
 ·rw [←d1,←d0]
 ·refine LinI.sends d4 (by rw [List.length_set];exact hl) d3 (by rw [d2.2.2.1,hi]) d2.2.2.2 fun j hj=>?_
  simp only [YV hk]
  by_cases hjk:j=k
  ·subst hjk
   simp only [if_true,JB hx]
   exact ⟨rfl,rfl,rfl,trivial,rfl⟩
  ·simp only [hjk,if_false,and_self]
theorem LinI.answerOff (h:LinI co ps cur X i e) (hl:ps.length=co) {k:Nat} {x:Pt} (hx:ps[k]? =some x) {m:Ms} {rest:List Ms} (hu:x.an=m::rest) (hi:m.li≠(i:Int)) {o:Mk} {a:Ms} (ho:∀j:Nat,j<8→hasM o j=true→j<co) (ha:Qew m.li a):LinI co (Jf (ps.set k {x with an:=rest}) (XC o a)) cur X i e:=by
 have hk:=(Vg hx).1
 refine LinI.sent (h.same fun j hj=>?_) (by rw [List.length_set];exact hl) ho (.inl (by rw [ha.2.2.1];exact hi))
 simp only [YV hk]
 by_cases hjk:j=k
 ·subst hjk
  simp only [if_true,JB hx]
  exact ⟨rfl,rfl,rfl,(anL_skip hu i hi).symm,rfl⟩
 ·simp only [hjk,if_false,and_self]
theorem LinI.push (h:LinI co ps cur X i e) (hd:Jy e=true) {X':List Int} (hX:X'=e.l):LinI co ps cur X' i ((Js e).setDi false):=by
 have fit:=push_fit hd
 have hb:e.bu=4∨e.bu=5:=by simp only [Jy,Bool.and_eq_true,Bool.or_eq_true,beq_iff_eq] at hd;exact hd.1.2
 have hw:e.wa=0#8:=by simp only [Jy,Bool.and_eq_true,beq_iff_eq] at hd;exact hd.2
 have hh:e.he=true:=fit.1
 have hg:JN ((Js e).setDi false)=true:=fit.2.1
 refine ⟨hg,⟨h.lo.1,?_,h.lo.2.2.1,fun j _ h1=>?_⟩,fun j hj=>?_,h.data,fun h1=>absurd (hh.symm.trans h1) (by decide),fun _ _=>hX,fun h1=>absurd (show (0:Int)=1 from h1) (by decide),fun h1=>absurd (show (0:Int)=2 from h1) (by decide)⟩
 ·obtain ⟨p,hp,he⟩:=J2 (by rcases ((YX hh).1 h.good).2 with ⟨h1,_⟩|⟨_,h1,_⟩|⟨_,h1⟩;omega;exact h1.1;exact h1.1)
  have:=h.lo.2.1
  show (0:Int)<co
  omega
 ·have h2:hasM 0#8 (j:Int)=true:=h1
  rw [ZW] at h2;cases h2
 ·have hr:=h.rel j hj
  rw [hw,ZW,bOf_fl j hb] at hr
  show Rel cur e.l (ktOf ((Js e).setDi false)) (decide (e.ow=(j:Int))) (hasM e.sh j) (hasM 0#8 j) (bOf ((Js e).setDi false) j) _ _ _ _ _
  rw [ZW,bOf_0 (show ((Js e).setDi false).bu=0 from rfl)]
  exact (hr.anyKt _).1
theorem LinI.drop (h:LinI co ps cur X i e) (hco:1≤co) (hd:Qdg e=false) {X':List Int} (hX:X'=e.l):LinI co ps cur X' i enE:=by
 unfold Qdg at hd
 simp only [Bool.or_eq_false_iff,Bool.not_eq_false',decide_eq_false_iff_not,bne_eq_false_iff_eq] at hd
 obtain ⟨⟨⟨hh,ho⟩,hs⟩,hb⟩:=hd
 obtain ⟨g1,g2,g3,hr⟩:=LI.free h hh hb
 have hone:e.ow= -1:=by
  rcases g1 with h1|⟨h1,_⟩
  ·exact h1
  ·simp [isC] at h1;omega
 have hc:=h.data hh hone
 refine ⟨rfl,⟨by show (-1:Int)<co;omega,by show (0:Int)<co;omega,fun j _ h1=>?_,fun j _ h1=>?_⟩,fun j hj=>?_,fun h1=>absurd (show false=true from h1) (by decide),fun _=>hX.trans hc,fun h1=>absurd (show false=true from h1) (by decide),fun h1=>absurd (show (0:Int)=1 from h1) (by decide),fun h1=>absurd (show (0:Int)=2 from h1) (by decide)⟩
 ·have h2:hasM 0#8 (j:Int)=true:=h1
  rw [ZW] at h2;cases h2
 ·have h2:hasM 0#8 (j:Int)=true:=h1
  rw [ZW] at h2;cases h2
 ·have h1:=hr j hj
  rw [hone,decide_eq_false (by omega),hs,ZW] at h1
  obtain ⟨_,h3,h4⟩:=h1.none cur enE.l 13
  show Rel cur enE.l 13 (decide ((-1:Int)=(j:Int))) (hasM 0#8 j) (hasM 0#8 j) (bOf enE j) _ _ _ _ _
  rw [decide_eq_false (by omega),ZW,bOf_0 (show enE.bu=0 from rfl),h3]
  exact h4
theorem LinI.mem (h:LinI co ps cur X i e) {X':List Int} (hX:X'=X):LinI co ps cur X' i e:=by subst hX;exact h
end
end
section
structure MDid where
 v:Int
 hit:Bool
 m:Ms
 e:Int
def did0:MDid:=⟨0,false,msZ,0⟩
def didE (e:Int):MDid:=⟨0,false,msZ,e⟩
def lnG (X:List Int) (i:Nat):List Int:=if (ln X i).length=8 then ln X i else zl8
theorem Qbl (X:List Int) (i:Nat):(lnG X i).length=8:=by unfold lnG;split<;>first |assumption|rfl
theorem lnG_eq {X:List Int} {i:Nat} (h:(ln X i).length=8):lnG X i=ln X i:=by unfold lnG;rw [if_pos h]
def Xo (c:Cg) (S:Mst) (k:Int):Option Pt:=if inB k c.co=true then S.ps[k.toNat]? else none
def Mst.put (S:Mst) (k:Int) (x:Pt):Mst:=⟨S.ps.set k.toNat x,S.en,S.es,S.xs⟩
def loadM (c:Cg) (S:Mst) (k li wd:Int):Mst×MDid:=
 match Xo c S k with
 |none=>(S,did0)
 |some x=>if inB li c.li=true then (S.put k {x with s:=(loadF c.se c.wa x.s li wd).1,up:=x.up++(loadF c.se c.wa x.s li wd).2.2.2},⟨(loadF c.se c.wa x.s li wd).2.1,(loadF c.se c.wa x.s li wd).2.2.1,msZ,0⟩) else (S,did0)
def storeM (c:Cg) (S:Mst) (k li wd v:Int):Mst×MDid:=
 match Xo c S k with
 |none=>(S,did0)
 |some x=>if inB li c.li=true then (S.put k {x with s:=(storeF c.se c.wa x.s li wd v).1,up:=x.up++(storeF c.se c.wa x.s li wd v).2.2},⟨0,(storeF c.se c.wa x.s li wd v).2.1,msZ,0⟩) else (S,did0)
def reachM (c:Cg) (S:Mst) (k li:Int):Mst×MDid:=
 match Xo c S k with
 |none=>(S,did0)
 |some x=>if inB li c.li=true then (if Qeo x.s.1 li=true then (S,⟨0,true,msZ,0⟩) else (S.put k {x with s:=(reachF c.se c.wa x.s li).1,up:=x.up++(reachF c.se c.wa x.s li).2},did0)) else (S,did0)
def flushM (c:Cg) (S:Mst) (k li kd:Int):Mst×MDid:=
 match Xo c S k with
 |none=>(S,didE 1)
 |some x=>if inB li c.li=true∧(kd=4∨kd=5) then (S.put k {x with up:=x.up++[ms4 kd li false false]},did0) else (S,didE 1)
def upM (c:Cg) (S:Mst) (k:Int):Mst×MDid:=
 match Xo c S k with
 |none=>(S,didE 1)
 |some x=>match x.up with
  |[]=>(S,didE 14)
  |m::rest=>match S.en[m.li.toNat]? with
   |none=>(S,did0)
   |some e=>if (askE (Qci e (lnG S.X m.li.toNat) (Qbl _ _)) k m).2=0 then (⟨Jf (S.ps.set k.toNat {x with up:=rest}) (askE (Qci e (lnG S.X m.li.toNat) (Qbl _ _)) k m).1.2,S.en.set m.li.toNat (askE (Qci e (lnG S.X m.li.toNat) (Qbl _ _)) k m).1.1,S.es,S.xs⟩,did0) else (S,didE (askE (Qci e (lnG S.X m.li.toNat) (Qbl _ _)) k m).2)
def answerM (c:Cg) (S:Mst) (k:Int):Mst×MDid:=
 match Xo c S k with
 |none=>(S,didE 1)
 |some x=>match x.an with
  |[]=>(S,didE 14)
  |m::rest=>match S.en[m.li.toNat]? with
   |none=>(S,did0)
   |some e=>if (ansE e k m).2=0 then (⟨Jf (S.ps.set k.toNat {x with an:=rest}) (ansE e k m).1.2,S.en.set m.li.toNat (ansE e k m).1.1,S.es,S.xs⟩,did0) else (S.put k {x with an:=rest},didE (ansE e k m).2)
def hearM (c:Cg) (S:Mst) (k:Int):Mst×MDid:=
 match Xo c S k with
 |none=>(S,didE 1)
 |some x=>match x.dn with
  |[]=>(S,didE 14)
  |m::rest=>if (hearF c.se c.wa x.s m).2.2=0 then (S.put k {x with s:=(hearF c.se c.wa x.s m).1,an:=x.an++(hearF c.se c.wa x.s m).2.1,dn:=rest},⟨0,false,m,0⟩) else (S.put k {x with s:=(hearF c.se c.wa x.s m).1,dn:=rest},didE (hearF c.se c.wa x.s m).2.2)
def pushM (c:Cg) (S:Mst) (li:Int):Mst×MDid:=
 if inB li c.li=true then (match S.en[li.toNat]? with
  |none=>(S,did0)
  |some e=>if Jy e=true then (if Qat c S.es li.toNat e=0 then (⟨Jf S.ps (XC (bitM e.by_) (ms4 14 li false false)),S.en.set li.toNat ((Js e).setDi false),Ju c S.es li.toNat e,S.xs⟩,did0) else (⟨S.ps,S.en,Ju c S.es li.toNat e,S.xs⟩,didE (Qat c S.es li.toNat e))) else (S,didE 16)) else (S,didE 1)
def evictM (c:Cg) (S:Mst) (k li:Int):Mst×MDid:=
 match Xo c S k with
 |none=>(S,didE 1)
 |some x=>if inB li c.li=true then (S.put k {x with s:=(evictF c.se c.wa x.s li).1,up:=x.up++(evictF c.se c.wa x.s li).2.1},didE (evictF c.se c.wa x.s li).2.2) else (S,didE 1)
def dropM (c:Cg) (S:Mst) (li:Int):Mst×MDid:=
 if inB li c.li=true then (match S.en[li.toNat]? with
  |none=>(S,did0)
  |some e=>if Qdg e=true then (S,didE 16) else (if Qat c S.es li.toNat e=0 then (⟨S.ps,S.en.set li.toNat enE,Ju c S.es li.toNat e,S.xs⟩,did0) else (⟨S.ps,S.en,Ju c S.es li.toNat e,S.xs⟩,didE (Qat c S.es li.toNat e)))) else (S,didE 1)
def drainM (c:Cg) (S:Mst) (li:Int):Mst×MDid:=
 if inB li c.li=true then (⟨S.ps,S.en,J4 S.es li,JW S.xs S.es li⟩,didE (Qbr S.es li)) else (S,didE 1)
def failM (c:Cg) (S:Mst):Mst:=⟨List.replicate c.co (pt0 c),List.replicate c.li enE,[],Jn S.X c.vo⟩
structure PtI (c:Cg) (n:Nat) (x:Pt):Prop where
 aj:AJ c.se c.wa c.li x.s
 us:x.s.2≤n
 up:x.up.length≤n
 an:x.an.length≤n
 dn:x.dn.length≤n
 fu:∀m∈x.up,mg m=true∧Qeq m.kd=true∧m.li<c.li
 fa:∀m∈x.an,mg m=true∧Qbt m.kd=true∧m.li<c.li
 fd:∀m∈x.dn,mg m=true∧Y5 m.kd=true∧m.li<c.li
theorem PtI.mono {c:Cg} {n n':Nat} {x:Pt} (h:PtI c n x) (hn:n≤n'):PtI c n' x:=
 ⟨h.aj,by have:=h.us;omega,Nat.le_trans h.up hn,Nat.le_trans h.an hn,Nat.le_trans h.dn hn,h.fu,h.fa,h.fd⟩
structure Inv (c:Cg) (n:Nat) (S:Mst) (cur:Nat→List Int):Prop where
 ok:c.Ok
 co:S.ps.length=c.co
 li:S.en.length=c.li
 xs:S.xs.length=c.li*8
 lie:Lie c.li S.es
 pt:∀j,j<c.co→PtI c n (atP S.ps j)
 ln:∀i e,S.en[i]? =some e→LinI c.co S.ps (cur i) (ln S.X i) i e
theorem mg_line {m:Ms} (h:mg m=true):0≤m.li∧m.li≤63∧Qc8 m.li=true:=by
 simp only [mg,Bool.and_eq_true] at h
 have h2:=h.1.1.1.2
 have:=h2
 simp [Qc8] at this
 exact ⟨this.1,this.2,h2⟩
section
variable {c:Cg} {n:Nat} {S:Mst} {cur:Nat→List Int} (h:Inv c n S cur)
include h
theorem Inv.lX:S.X.length=c.li*8:=Qc6 _ _ h.xs h.lie
theorem Inv.ln8 {i:Nat} (hi:i<c.li):(Go.Proofs.YtlidfghgjjffaaaGreatDoor.ln S.X i).length=8:=Qig _ _ (JO h.lX hi)
theorem Inv.mono {n':Nat} (hn:n≤n'):Inv c n' S cur:=⟨h.ok,h.co,h.li,h.xs,h.lie,fun j hj=>(h.pt j hj).mono hn,h.ln⟩
theorem Inv.port {k:Int} {x:Pt} (hp:Xo c S k=some x):∃j:Nat,k=(j:Int)∧j<c.co∧S.ps[j]? =some x∧atP S.ps j=x∧PtI c n x∧inB k c.co=true:=by
 unfold Xo at hp
 split at hp
 ·rename_i hb
  have hb':=hb
  unfold inB at hb
  simp at hb
  obtain ⟨j,rfl⟩:∃j:Nat,k=(j:Int):=⟨k.toNat,by omega⟩
  rw [Int.toNat_natCast] at hp
  have:=JB hp
  exact ⟨j,rfl,by omega,hp,this,this▸h.pt j (by omega),hb'⟩
 ·cases hp
theorem Inv.portNone {k:Int} (hp:Xo c S k=none):inB k c.co=false:=by
 unfold Xo at hp
 split at hp
 ·rename_i hb
  unfold inB at hb
  simp at hb
  rw [List.getElem?_eq_none_iff,h.co] at hp
  omega
 ·rename_i hb;simpa using hb
theorem Inv.entry {i:Nat} (hi:i<c.li):∃e,S.en[i]? =some e∧LinI c.co S.ps (cur i) (Go.Proofs.YtlidfghgjjffaaaGreatDoor.ln S.X i) i e:=
 ⟨_,List.getElem?_eq_getElem (by rw [h.li];exact hi),h.ln i _ (List.getElem?_eq_getElem (by rw [h.li];exact hi))⟩
theorem Inv.ag {j:Nat} {x:Pt} (hj:j<c.co) (hx:S.ps[j]? =some x) {s':Sta} {ms:List Ms} (ha:Asks c.li x.s s' ms) (haj:AJ c.se c.wa c.li s') (hu:s'.2≤x.s.2+1):Inv c (n+1) (S.put j {x with s:=s',up:=x.up++ms}) cur:=by
 have hk:=(Vg hx).1
 have e0:(S.put (j:Int) {x with s:=s',up:=x.up++ms}).ps=S.ps.set j {x with s:=s',up:=x.up++ms}:=by unfold Mst.put;rw [Int.toNat_natCast]
 have hpx:=JB hx▸h.pt j hj
 have hlen:ms.length≤1∧∀m∈ms,mg m=true∧Qeq m.kd=true∧m.li<c.li:=by
  rcases ha with ⟨rfl,_⟩|⟨li,h0,hn,ha,_⟩
  ·exact ⟨by simp,fun m hm=>by cases hm⟩
  ·have:=h.ok.li64
   obtain ⟨m,rfl,h1,h2,h3,h4⟩:=ha.msg (by unfold Qc8;simp;omega)
   exact ⟨by simp,fun a hm=>by rw [List.mem_singleton] at hm;subst hm;exact ⟨h4,h3,by omega⟩⟩
 refine ⟨h.ok,?_,h.li,h.xs,h.lie,fun p hp=>?_,fun i e he=>?_⟩
 ·rw [e0,List.length_set];exact h.co
 ·rw [e0,YV hk]
  split
  ·refine ⟨haj,?_,?_,Nat.le_succ_of_le hpx.an,Nat.le_succ_of_le hpx.dn,?_,hpx.fa,hpx.fd⟩
   ·have:=hpx.us
    show s'.2≤((n+1:Nat):Int)
    omega
   ·show (x.up++ms).length≤n+1
    rw [List.length_append]
    have:=hpx.up
    omega
   ·intro m hm
    rcases List.mem_append.1 hm with h1|h1
    ·exact hpx.fu m h1
    ·exact hlen.2 m h1
  ·exact (h.pt p hp).mono (Nat.le_succ n)
 ·rw [e0]
  exact (h.ln i e he).ag h.ok.li64 hx ha
theorem Inv.write {j:Nat} {x:Pt} (hj:j<c.co) (hx:S.ps[j]? =some x) {s':Sta} {li:Nat} (l':List Int) (hs:(vw x.s li).1=2∨(vw x.s li).1=3) (hv:vw s' li=(3,l')) (ho:∀li',li'≠(li:Int)→vw s' li'=vw x.s li') (haj:AJ c.se c.wa c.li s') (hu:s'.2≤x.s.2+1):
 Inv c (n+1) (S.put j {x with s:=s'}) (fun i=>if i=li then l' else cur i)∧(vw x.s li).2=cur li:=by
 have hk:=(Vg hx).1
 have e0:(S.put (j:Int) {x with s:=s'}).ps=S.ps.set j {x with s:=s'}:=by unfold Mst.put;rw [Int.toNat_natCast]
 have hpx:=JB hx▸h.pt j hj
 refine ⟨⟨h.ok,?_,h.li,h.xs,h.lie,fun p hp=>?_,fun i e he=>?_⟩,?_⟩
 ·rw [e0,List.length_set];exact h.co
 ·rw [e0,YV hk]
  split
  ·refine ⟨haj,?_,Nat.le_succ_of_le hpx.up,Nat.le_succ_of_le hpx.an,Nat.le_succ_of_le hpx.dn,hpx.fu,hpx.fa,hpx.fd⟩
   have:=hpx.us
   show s'.2≤((n+1:Nat):Int)
   omega
  ·exact (h.pt p hp).mono (Nat.le_succ n)
 ·rw [e0]
  have hl:=h.ln i e he
  by_cases hi:i=li
  ·subst hi
   rw [if_pos rfl]
   exact (hl.write hj hx l' hs hv).1
  ·rw [if_neg hi]
   exact hl.writeOff hx (ho i (by omega))
 ·have hli:li<c.li:=by
   have:=(hpx.aj.line (li:=(li:Int)) (by omega)).2.1
   omega
  obtain ⟨e,he,hl⟩:=h.entry hli
  exact (hl.write hj hx l' hs hv).2
theorem Inv.flush {j:Nat} {x:Pt} (hj:j<c.co) (hx:S.ps[j]? =some x) {li:Int} (hl:inB li c.li=true) {kd:Int} (hkd:kd=4∨kd=5):Inv c (n+1) (S.put j {x with up:=x.up++[ms4 kd li false false]}) cur∧mg (ms4 kd li false false)=true:=by
 have hk:=(Vg hx).1
 have e0:(S.put (j:Int) {x with up:=x.up++[ms4 kd li false false]}).ps=S.ps.set j {x with up:=x.up++[ms4 kd li false false]}:=by unfold Mst.put;rw [Int.toNat_natCast]
 have hpx:=JB hx▸h.pt j hj
 have h64:=h.ok.li64
 unfold inB at hl
 simp at hl
 have hlB:Qc8 li=true:=by unfold Qc8;simp;omega
 have hmg:mg (ms4 kd li false false)=true:=by rcases hkd with rfl|rfl<;>simp [mg,ms4,Qc9,hlB]
 refine ⟨⟨h.ok,?_,h.li,h.xs,h.lie,fun p hp=>?_,fun i e he=>?_⟩,hmg⟩
 ·rw [e0,List.length_set];exact h.co
 ·rw [e0,YV hk]
  split
  ·refine ⟨hpx.aj,?_,?_,Nat.le_succ_of_le hpx.an,Nat.le_succ_of_le hpx.dn,?_,hpx.fa,hpx.fd⟩
   ·have:=hpx.us
    show x.s.2≤((n+1:Nat):Int)
    omega
   ·show (x.up++[ms4 kd li false false]).length≤n+1
    rw [List.length_append]
    have:=hpx.up
    simp;omega
   ·intro m hm
    rcases List.mem_append.1 hm with h1|h1
    ·exact hpx.fu m h1
    ·rw [List.mem_singleton] at h1
     subst h1
     exact ⟨hmg,by rcases hkd with rfl|rfl<;>rfl,hl.2⟩
  ·exact (h.pt p hp).mono (Nat.le_succ n)
 ·rw [e0]
  refine (h.ln i e he).same fun p hp=>?_
  rw [YV hk]
  split
  ·rename_i hpj
   subst hpj
   rw [JB hx]
   refine ⟨rfl,rfl,?_,rfl,rfl⟩
   unfold upL
   rw [List.filter_append]
   have:[ms4 kd li false false].filter (fun m=>m.li==(i:Int)&&decide (m.kd≤3))=[]:=by rcases hkd with rfl|rfl<;>simp [ms4]
   rw [this,List.append_nil]
  ·exact ⟨rfl,rfl,rfl,rfl,rfl⟩
omit h in
theorem PtI.sent {c:Cg} {n:Nat} {x:Pt} (h:PtI c n x) {a:Ms} (ha:mg a=true∧Y5 a.kd=true∧a.li<c.li):PtI c (n+1) {x with dn:=x.dn++[a]}:=by
 refine ⟨h.aj,?_,Nat.le_succ_of_le h.up,Nat.le_succ_of_le h.an,?_,h.fu,h.fa,?_⟩
 ·have:=h.us
  show x.s.2≤((n+1:Nat):Int)
  omega
 ·show (x.dn++[a]).length≤n+1
  rw [List.length_append]
  have:=h.dn
  simp;omega
 ·intro m hm
  rcases List.mem_append.1 hm with h1|h1
  ·exact h.fd m h1
  ·rw [List.mem_singleton] at h1;subst h1;exact ha
end
theorem Qgd {c:Cg} {n:Nat} {ps:List Pt} (hl:ps.length=c.co) (hp:∀j,j<c.co→PtI c n (atP ps j)) {o:Mk} {a:Ms} (ho:∀j:Nat,j<8→hasM o j=true→j<c.co) (ha:mg a=true∧Y5 a.kd=true∧a.li<c.li):
 (Jf ps (XC o a)).length=c.co∧∀j,j<c.co→PtI c (n+1) (atP (Jf ps (XC o a)) j):=by
 obtain ⟨h1,h2⟩:=Qd9 o a ps (by rw [hl];exact ho)
 refine ⟨h1.trans hl,fun j hj=>?_⟩
 rw [h2 j (by omega)]
 split
 ·exact (hp j hj).sent ha
 ·exact (hp j hj).mono (Nat.le_succ n)
section
variable {c:Cg} {n:Nat} {S:Mst} {cur:Nat→List Int} (h:Inv c n S cur)
include h
theorem Inv.up {j:Nat} {x:Pt} (hj:j<c.co) (hx:S.ps[j]? =some x) {m:Ms} {rest:List Ms} (hu:x.up=m::rest):∃(i:Nat) (e:En),m.li=(i:Int)∧i<c.li∧S.en[i]? =some e∧
 ((e.bu≠0∧askE (Qci e (lnG S.X i) (Qbl _ _)) j m=((enZ,[]),15))∨
  (e.bu=0∧∃o a e',askE (Qci e (lnG S.X i) (Qbl _ _)) j m=((e',XC o a),0)∧Qew m.li a∧(∀j:Nat,j<8→hasM o j=true→j<c.co)∧Inv c (n+1) ⟨Jf (S.ps.set j {x with up:=rest}) (XC o a),S.en.set i e',S.es,S.xs⟩ cur)):=by
 have hk:=(Vg hx).1
 have hpx:=JB hx▸h.pt j hj
 obtain ⟨m1,m2,m3⟩:=hpx.fu m (by rw [hu];simp)
 obtain ⟨l1,l2,l3⟩:=mg_line m1
 obtain ⟨i,hi⟩:∃i:Nat,m.li=(i:Int):=⟨m.li.toNat,by omega⟩
 have hic:i<c.li:=by omega
 obtain ⟨e,he,hl⟩:=h.entry hic
 refine ⟨i,e,hi,hic,he,?_⟩
 have h8:=h.ln8 hic
 have hG:=lnG_eq h8
 by_cases hb:e.bu=0
 ·obtain ⟨o,a,e',q1,q2,q3,q4⟩:=LinI.up (X:=lnG S.X i) (by rw [hG];exact hl) h.ok.co8 h.co (Qbl _ _) hb hx hu m2 m1 hi
  refine .inr ⟨hb,o,a,e',q1,q2,q3,?_⟩
  have hta:mg a=true∧Y5 a.kd=true∧a.li<c.li:=⟨q2.1,q2.2.1,by rw [q2.2.2.1];exact m3⟩
  have hp1:∀p,p<c.co→PtI c n (atP (S.ps.set j {x with up:=rest}) p):=by
   intro p hp
   rw [YV hk]
   split
   ·refine ⟨hpx.aj,hpx.us,?_,hpx.an,hpx.dn,fun a ha=>hpx.fu a (by rw [hu];simp [show a∈rest from ha]),hpx.fa,hpx.fd⟩
    have:=hpx.up
    rw [hu] at this
    simp at this
    show rest.length≤n
    omega
   ·exact h.pt p hp
  obtain ⟨r1,r2⟩:=Qgd (by rw [List.length_set];exact h.co) hp1 q3 hta
  refine ⟨h.ok,r1,by rw [List.length_set];exact h.li,h.xs,h.lie,r2,fun p ep hep=>?_⟩
  rw [List.getElem?_set] at hep
  split at hep
  ·rename_i hip
   subst hip
   split at hep
   ·injection hep with hep
    subst hep
    rw [hG] at q4
    exact q4
   ·cases hep
  ·rename_i hip
   exact LinI.upOff (h.ln p ep hep) h.co hx hu (by omega) q3 q2
 ·refine .inl ⟨hb,?_⟩
  have hh:e.he=true:=by
   cases hh:e.he
   ·have he':e=enE:=by
     have:=hl.good
     unfold JN at this
     rw [if_neg (by simp [hh])] at this
     simpa using this
    rw [he'] at hb;exact absurd rfl hb
   ·rfl
  unfold Qci
  rw [if_pos hh]
  unfold askE
  have harg:Qd3 e j m=true:=by simp [Qd3,hl.good,Qb8 (show j<8 by have:=h.ok.co8;omega),m1,m2]
  rw [if_pos harg,if_pos hb]
theorem Inv.answer {j:Nat} {x:Pt} (hj:j<c.co) (hx:S.ps[j]? =some x) {m:Ms} {rest:List Ms} (hu:x.an=m::rest):∃(i:Nat) (e:En),m.li=(i:Int)∧i<c.li∧S.en[i]? =some e∧
 ∃o a e',ansE e j m=((e',XC o a),0)∧Qew m.li a∧(∀j:Nat,j<8→hasM o j=true→j<c.co)∧Inv c (n+1) ⟨Jf (S.ps.set j {x with an:=rest}) (XC o a),S.en.set i e',S.es,S.xs⟩ cur:=by
 have hk:=(Vg hx).1
 have hpx:=JB hx▸h.pt j hj
 obtain ⟨m1,m2,m3⟩:=hpx.fa m (by rw [hu];simp)
 obtain ⟨l1,l2,l3⟩:=mg_line m1
 obtain ⟨i,hi⟩:∃i:Nat,m.li=(i:Int):=⟨m.li.toNat,by omega⟩
 have hic:i<c.li:=by omega
 obtain ⟨e,he,hl⟩:=h.entry hic
 refine ⟨i,e,hi,hic,he,?_⟩
 obtain ⟨o,a,e',q1,q2,q3,q4⟩:=LinI.answer hl h.ok.co8 h.co hx hu m2 m1 hi
 refine ⟨o,a,e',q1,q2,q3,?_⟩
 have hta:mg a=true∧Y5 a.kd=true∧a.li<c.li:=⟨q2.1,q2.2.1,by rw [q2.2.2.1];exact m3⟩
 have hp1:∀p,p<c.co→PtI c n (atP (S.ps.set j {x with an:=rest}) p):=by
  intro p hp
  rw [YV hk]
  split
  ·refine ⟨hpx.aj,hpx.us,hpx.up,?_,hpx.dn,hpx.fu,fun a ha=>hpx.fa a (by rw [hu];simp [show a∈rest from ha]),hpx.fd⟩
   have:=hpx.an
   rw [hu] at this
   simp at this
   show rest.length≤n
   omega
  ·exact h.pt p hp
 obtain ⟨r1,r2⟩:=Qgd (by rw [List.length_set];exact h.co) hp1 q3 hta
 refine ⟨h.ok,r1,by rw [List.length_set];exact h.li,h.xs,h.lie,r2,fun p ep hep=>?_⟩
 rw [List.getElem?_set] at hep
 split at hep
 ·rename_i hip
  subst hip
  split at hep
  ·injection hep with hep
   subst hep
   exact q4
  ·cases hep
 ·rename_i hip
  exact LinI.answerOff (h.ln p ep hep) h.co hx hu (by omega) q3 q2
theorem Inv.hear {j:Nat} {x:Pt} (hj:j<c.co) (hx:S.ps[j]? =some x) {m:Ms} {rest:List Ms} (hd:x.dn=m::rest):tb m.kd (vw x.s m.li).1≠0∧(hearF c.se c.wa x.s m).2.2=0∧(hearF c.se c.wa x.s m).2.1.length≤1∧(∀a∈(hearF c.se c.wa x.s m).2.1,mg a=true)∧
 Inv c (n+1) (S.put j {x with s:=(hearF c.se c.wa x.s m).1,an:=x.an++(hearF c.se c.wa x.s m).2.1,dn:=rest}) cur:=by
 have hk:=(Vg hx).1
 have hpx:=JB hx▸h.pt j hj
 obtain ⟨m1,m2,m3⟩:=hpx.fd m (by rw [hd];simp)
 obtain ⟨l1,l2,l3⟩:=mg_line m1
 obtain ⟨i,hi⟩:∃i:Nat,m.li=(i:Int):=⟨m.li.toNat,by omega⟩
 have hic:i<c.li:=by omega
 obtain ⟨e,he,hl⟩:=h.entry hic
 have ht:=hl.fits hj hx hpx.aj hd hi
 have hg:(mg m&&Y5 m.kd)=true:=by rw [m1,m2];rfl
 obtain ⟨a1,a2,_⟩:=hpx.aj.hearF hg m3 ht
 have hav:(Xh m.kd (Qy x.s.1 m.li) (tb m.kd (vw x.s m.li).1)).length≤1∧∀a∈Xh m.kd (Qy x.s.1 m.li) (tb m.kd (vw x.s m.li).1),mg a=true∧Qbt a.kd=true∧a.li<c.li:=by
  by_cases h14:m.kd=14
  ·rw [h14];exact ⟨Nat.zero_le _,fun a ha=>by cases ha⟩
  ·have hl:=(hpx.aj.line (tb_line ht h14)).2.2.1
   have hto:∀kd ke,((kd=6∧ke=false)∨kd=7)→mg (JT kd (Qy x.s.1 m.li) ke)=true∧Qbt (JT kd (Qy x.s.1 m.li) ke).kd=true∧(JT kd (Qy x.s.1 m.li) ke).li<c.li:=by
    intro kd ke hk
    unfold JT
    split
    ·refine ⟨?_,by rcases hk with ⟨rfl,_⟩|rfl<;>rfl,by show (Qy x.s.1 m.li).li<c.li;omega⟩
     rcases hk with ⟨rfl,rfl⟩|rfl<;>simp [mg,Qc9,mayD,mayK,hl,l3]
    ·refine ⟨?_,by rcases hk with ⟨rfl,_⟩|rfl<;>rfl,by show (Qy x.s.1 m.li).li<c.li;omega⟩
     rcases hk with ⟨rfl,rfl⟩|rfl<;>simp [mg,ms4,Qc9,mayD,mayK,hl,l3]
   unfold Xh
   split
   ·exact ⟨by simp,fun a ha=>by rw [List.mem_singleton] at ha;subst ha;exact hto 6 false (.inl ⟨rfl,rfl⟩)⟩
   ·split
    ·exact ⟨by simp,fun a ha=>by rw [List.mem_singleton] at ha;subst ha;exact hto 7 _ (.inr rfl)⟩
    ·exact ⟨by simp,fun a ha=>by cases ha⟩
 rw [show (hearF c.se c.wa x.s m).2.1=Xh m.kd (Qy x.s.1 m.li) (tb m.kd (vw x.s m.li).1) by rw [a2]]
 refine ⟨ht,by rw [a2],hav.1,fun a ha=>(hav.2 a ha).1,?_⟩
 generalize hAV:Xh m.kd (Qy x.s.1 m.li) (tb m.kd (vw x.s m.li).1)=av at hav
 have e0:(S.put (j:Int) {x with s:=(hearF c.se c.wa x.s m).1,an:=x.an++av,dn:=rest}).ps=S.ps.set j {x with s:=(hearF c.se c.wa x.s m).1,an:=x.an++av,dn:=rest}:=by unfold Mst.put;rw [Int.toNat_natCast]
 refine ⟨h.ok,?_,h.li,h.xs,h.lie,fun p hp=>?_,fun p ep hep=>?_⟩
 ·rw [e0,List.length_set];exact h.co
 ·rw [e0,YV hk]
  split
  ·refine ⟨a1,?_,Nat.le_succ_of_le hpx.up,?_,?_,hpx.fu,?_,fun a ha=>hpx.fd a (by rw [hd];simp [show a∈rest from ha])⟩
   ·have:=(hearF_u (S:=c.se) (N:=c.wa) (s:=x.s) (m:=m)).2
    have:=hpx.us
    show (hearF c.se c.wa x.s m).1.2≤((n+1:Nat):Int)
    omega
   ·show (x.an++av).length≤n+1
    rw [List.length_append]
    have:=hpx.an
    omega
   ·have:=hpx.dn
    rw [hd] at this
    simp at this
    show rest.length≤n+1
    omega
   ·intro a ha
    rcases List.mem_append.1 ha with h1|h1
    ·exact hpx.fa a h1
    ·exact hav.2 a h1
  ·exact (h.pt p hp).mono (Nat.le_succ n)
 ·rw [e0,←hAV]
  exact (h.ln p ep hep).hear hx hpx.aj hd hg m3 ht
theorem Inv.saved {i:Nat} (hi:i<c.li) (e:En):(Qat c S.es i e=0∨Qat c S.es i e=13)∧(Qat c S.es i e≠0→Ju c S.es i e=S.es)∧(Qat c S.es i e=0→Lie c.li (Ju c S.es i e)∧over S.xs (Ju c S.es i e)=if e.di=true then JV S.X i e.l else S.X):=by
 have h0:(0:Int)≤(i:Int)∧(i:Int)<(c.li:Int):=by omega
 unfold Qat Ju Qd6 pushEs
 rw [if_pos h0,if_pos h0]
 cases hd:e.di
 ·simp only [Bool.false_eq_true,if_false]
  exact ⟨.inl trivial,fun h=>absurd rfl h,fun _=>⟨h.lie,rfl⟩⟩
 ·simp only [if_true]
  by_cases hr:c.qu≤S.es.length
  ·rw [if_pos hr,if_pos hr]
   exact ⟨.inr rfl,fun _=>rfl,fun h=>absurd h (by decide)⟩
  ·rw [if_neg hr,if_neg hr]
   refine ⟨.inl rfl,fun h=>absurd rfl h,fun _=>⟨h.lie.snoc (by rw [Int.toNat_natCast];exact hi),?_⟩⟩
   rw [Qic,Int.toNat_natCast];rfl
theorem Inv.push {i:Nat} {e:En} (hi:i<c.li) (he:S.en[i]? =some e) (hr:Jy e=true):isC e.by_=true∧e.by_<c.co∧mg (ms4 14 i false false)=true∧(Qat c S.es i e=0→Inv c (n+1) ⟨Jf S.ps (XC (bitM e.by_) (ms4 14 i false false)),S.en.set i ((Js e).setDi false),Ju c S.es i e,S.xs⟩ cur):=by
 have hl:=h.ln i e he
 have h64:=h.ok.li64
 have fit:=push_fit hr
 have hh:e.he=true:=fit.1
 have hlB:Qc8 (i:Int)=true:=by unfold Qc8;simp;omega
 have hmg:mg (ms4 14 (i:Int) false false)=true:=by simp [mg,ms4,Qc9,hlB]
 have hbu:e.bu=4∨e.bu=5:=by simp only [Jy,Bool.and_eq_true,Bool.or_eq_true,beq_iff_eq] at hr;exact hr.1.2
 have hC:isC e.by_=true:=by
  rcases ((YX hh).1 hl.good).2 with ⟨h1,_⟩|⟨_,h1,_⟩|⟨_,h1⟩
  ·omega
  ·exact h1.1
  ·exact h1.1
 refine ⟨hC,hl.lo.2.1,hmg,fun hv=>?_⟩
 obtain ⟨_,_,s3⟩:=h.saved hi e
 obtain ⟨s4,s5⟩:=s3 hv
 obtain ⟨p,hp,hpe⟩:=J2 hC
 have hob:∀j:Nat,j<8→hasM (bitM e.by_) j=true→j<c.co:=by
  intro j _ hj
  rw [Yk _ hC,decide_eq_true_eq] at hj
  have:=hl.lo.2.1
  omega
 obtain ⟨r1,r2⟩:=Qgd h.co h.pt hob (a:=ms4 14 (i:Int) false false) ⟨hmg,rfl,by show (i:Int)<c.li;omega⟩
 refine ⟨h.ok,r1,by rw [List.length_set];exact h.li,h.xs,s4,r2,fun q eq heq=>?_⟩
 have eX:(Mst.mk (Jf S.ps (XC (bitM e.by_) (ms4 14 (i:Int) false false))) (S.en.set i ((Js e).setDi false)) (Ju c S.es i e) S.xs).X=if e.di=true then JV S.X i e.l else S.X:=s5
 rw [eX]
 rw [List.getElem?_set] at heq
 split at heq
 ·rename_i hiq
  subst hiq
  split at heq
  ·injection heq with heq
   subst heq
   refine LinI.sent (hl.push hr ?_) h.co hob (.inr rfl)
   split
   ·exact Qe2 _ _ _ (JO h.lX hi) e.h
   ·rename_i hd
    exact hl.mem1 hh (by simpa using hd)
  ·cases heq
 ·rename_i hiq
  refine LinI.sent ((h.ln q eq heq).mem ?_) h.co hob (.inr rfl)
  split
  ·exact Qdo _ _ _ _ (JO h.lX hi) e.h hiq
  ·rfl
theorem Inv.drop {i:Nat} {e:En} (hi:i<c.li) (he:S.en[i]? =some e) (hr:Qdg e=false) (hv:Qat c S.es i e=0):Inv c (n+1) ⟨S.ps,S.en.set i enE,Ju c S.es i e,S.xs⟩ cur:=by
 have hl:=h.ln i e he
 have hh:e.he=true:=by
  unfold Qdg at hr
  simp only [Bool.or_eq_false_iff,Bool.not_eq_false'] at hr
  exact hr.1.1.1
 obtain ⟨_,_,s3⟩:=h.saved hi e
 obtain ⟨s4,s5⟩:=s3 hv
 refine ⟨h.ok,h.co,by rw [List.length_set];exact h.li,h.xs,s4,fun j hj=>(h.pt j hj).mono (Nat.le_succ n),fun q eq heq=>?_⟩
 have eX:(Mst.mk S.ps (S.en.set i enE) (Ju c S.es i e) S.xs).X=if e.di=true then JV S.X i e.l else S.X:=s5
 rw [eX]
 rw [List.getElem?_set] at heq
 split at heq
 ·rename_i hiq
  subst hiq
  split at heq
  ·injection heq with heq
   subst heq
   refine hl.drop h.ok.co1 hr ?_
   split
   ·exact Qe2 _ _ _ (JO h.lX hi) e.h
   ·rename_i hd
    exact hl.mem1 hh (by simpa using hd)
  ·cases heq
 ·rename_i hiq
  refine (h.ln q eq heq).mem ?_
  split
  ·exact Qdo _ _ _ _ (JO h.lX hi) e.h hiq
  ·rfl
theorem Inv.drain (li:Int):Inv c (n+1) ⟨S.ps,S.en,J4 S.es li,JW S.xs S.es li⟩ cur:=by
 have hx:Lie c.li (J4 S.es li)∧(JW S.xs S.es li).length=c.li*8∧over (JW S.xs S.es li) (J4 S.es li)=S.X:=by
  by_cases hf:Qaz S.es li<S.es.length
  ·obtain ⟨e,he,hp,hb⟩:=Qgn hf
   refine ⟨h.lie.sub (fun x hx=>List.mem_of_mem_eraseIdx hx),?_,?_⟩
   ·unfold JW
    rw [he]
    show (JV S.xs e.pos e.l).length=_
    rw [Jm _ _ _ (JO h.xs (h.lie.get he)) e.h]
    exact h.xs
   ·unfold JW J4
    rw [he]
    exact over_drain S.xs h.xs h.lie he (fun x hx=>by have:=hb x hx;omega)
  ·unfold J4 JW
   rw [List.eraseIdx_of_length_le (by omega),List.getElem?_eq_none (by omega)]
   exact ⟨h.lie,h.xs,rfl⟩
 refine ⟨h.ok,h.co,h.li,hx.2.1,hx.1,fun j hj=>(h.pt j hj).mono (Nat.le_succ n),fun q eq heq=>?_⟩
 have eX:(Mst.mk S.ps S.en (J4 S.es li) (JW S.xs S.es li)).X=S.X:=hx.2.2
 rw [eX]
 exact h.ln q eq heq
end
theorem Inv.fresh (c:Cg) (hc:c.Ok) (xs:List Int) (hx:xs.length=c.li*8):Inv c 0 ⟨List.replicate c.co (pt0 c),List.replicate c.li enE,[],xs⟩ (fun i=>Go.Proofs.YtlidfghgjjffaaaGreatDoor.ln xs i):=by
 have hgood:Good c.se c.wa (List.replicate (c.se*c.wa) sltZ):=by
  have:=hc.new
  unfold Qb1 at this
  exact Good.new (by omega) (by omega) (by omega)
 have haj:AJ c.se c.wa c.li (st0 c):=⟨OnceAt.new hgood,Sane.new _,Int.le_refl 0,fun x hx h0=>by rw [List.eq_of_mem_replicate hx] at h0;exact absurd rfl h0⟩
 have hat:∀j,j<c.co→atP (List.replicate c.co (pt0 c)) j=pt0 c:=fun j hj=>JB (by rw [List.getElem?_replicate,if_pos hj])
 have hfind:∀li,Qy (st0 c).1 li=sltZ:=fun li=>Qdw (fun x hx=>by rw [List.eq_of_mem_replicate hx];rfl)
 refine ⟨hc,by simp,by simp,hx,Lie.nil _,fun j hj=>?_,fun i e he=>?_⟩
 ·rw [hat j hj]
  exact ⟨haj,Int.le_refl 0,Nat.le_refl 0,Nat.le_refl 0,Nat.le_refl 0,fun m hm=>(by cases hm),fun m hm=>(by cases hm),fun m hm=>(by cases hm)⟩
 ·rw [List.getElem?_replicate] at he
  split at he
  ·injection he with he
   subst he
   refine ⟨rfl,⟨by show (-1:Int)<c.co;omega,by show (0:Int)<c.co;have:=hc.co1;omega,fun j _ h1=>?_,fun j _ h1=>?_⟩,fun j hj=>?_,fun h1=>absurd (show false=true from h1) (by decide),fun _=>rfl,fun h1=>absurd (show false=true from h1) (by decide),fun h1=>absurd (show (0:Int)=1 from h1) (by decide),fun h1=>absurd (show (0:Int)=2 from h1) (by decide)⟩
   ·have h2:hasM 0#8 (j:Int)=true:=h1
    rw [ZW] at h2;cases h2
   ·have h2:hasM 0#8 (j:Int)=true:=h1
    rw [ZW] at h2;cases h2
   ·simp only [hat j hj]
    have e1:vst (pt0 c) i=0:=by unfold vst vw;rw [show (pt0 c).s=st0 c from rfl,hfind];rfl
    rw [e1,bOf_0 (show enE.bu=0 from rfl)]
    show Rel _ _ _ (decide ((-1:Int)=(j:Int))) (hasM 0#8 j) (hasM 0#8 j) 0 0 _ [] [] []
    rw [decide_eq_false (by omega),ZW]
    exact .base (.i _)
  ·cases he
end
section
theorem Asks.msgs {n:Nat} {s s':Sta} {ms:List Ms} (h:Asks n s s' ms) (hn:n≤64):ms.length≤1∧∀m∈ms,mg m=true:=by
 rcases h with ⟨rfl,_⟩|⟨li,h0,hl,ha,_⟩
 ·exact ⟨Nat.zero_le _,fun m hm=>by cases hm⟩
 ·obtain ⟨m,rfl,_,_,_,h4⟩:=ha.msg (by unfold Qc8;simp;omega)
  exact ⟨Nat.le_refl 1,fun a hm=>by rw [List.mem_singleton] at hm;subst hm;exact h4⟩
theorem XL {k:Int} {n:Nat}:inB k n=true↔0≤k∧k<n:=by unfold inB;simp
section
variable {c:Cg} {n:Nat} {S:Mst} {cur:Nat→List Int} (h:Inv c n S cur)
include h
theorem Inv.next:Inv c (n+1) S cur:=h.mono (Nat.le_succ n)
theorem Inv.loadM (k li wd:Int):Inv c (n+1) (loadM c S k li wd).1 cur:=by
 unfold Go.Proofs.YtlidfghgjjffaaaGreatDoor.loadM
 cases hp:Xo c S k with
 |none=>exact h.next
 |some x=>
  obtain ⟨j,rfl,hj,hx,_,hP,_⟩:=h.port hp
  dsimp only
  split
  ·rename_i hl
   obtain ⟨a,b,_⟩:=hP.aj.loadF (XL.1 hl).2 wd
   exact h.ag hj hx b a loadF_u.2
  ·exact h.next
theorem Inv.reachM (k li:Int):Inv c (n+1) (reachM c S k li).1 cur:=by
 unfold Go.Proofs.YtlidfghgjjffaaaGreatDoor.reachM
 cases hp:Xo c S k with
 |none=>exact h.next
 |some x=>
  obtain ⟨j,rfl,hj,hx,_,hP,_⟩:=h.port hp
  dsimp only
  split
  ·rename_i hl
   split
   ·exact h.next
   ·obtain ⟨a,b⟩:=hP.aj.reachF (XL.1 hl).2
    exact h.ag hj hx b a reachF_u.2
  ·exact h.next
theorem Inv.evictM (k li:Int):Inv c (n+1) (evictM c S k li).1 cur:=by
 unfold Go.Proofs.YtlidfghgjjffaaaGreatDoor.evictM
 cases hp:Xo c S k with
 |none=>exact h.next
 |some x=>
  obtain ⟨j,rfl,hj,hx,_,hP,_⟩:=h.port hp
  dsimp only
  split
  ·obtain ⟨a,b⟩:=hP.aj.evictF li
   exact h.ag hj hx b a evictF_u.2
  ·exact h.next
theorem Inv.flushM (k li kd:Int):Inv c (n+1) (flushM c S k li kd).1 cur:=by
 unfold Go.Proofs.YtlidfghgjjffaaaGreatDoor.flushM
 cases hp:Xo c S k with
 |none=>exact h.next
 |some x=>
  obtain ⟨j,rfl,hj,hx,_,hP,_⟩:=h.port hp
  dsimp only
  split
  ·rename_i hl
   exact (h.flush hj hx hl.1 hl.2).1
  ·exact h.next
theorem Inv.storeM (k li wd v:Int):Inv c (n+1) (storeM c S k li wd v).1 (if (storeM c S k li wd v).2.hit=true then fun i=>if (i:Int)=li then (cur i).set wd.toNat v else cur i else cur)∧((storeM c S k li wd v).2.hit=true→inB k c.co=true∧inB li c.li=true∧isWd wd=true):=by
 cases hp:Xo c S k with
 |none=>
  have e:Go.Proofs.YtlidfghgjjffaaaGreatDoor.storeM c S k li wd v=(S,did0):=by unfold Go.Proofs.YtlidfghgjjffaaaGreatDoor.storeM;rw [hp]
  rw [e]
  exact ⟨h.next,fun h=>by cases h⟩
 |some x=>
  obtain ⟨j,rfl,hj,hx,_,hP,hb⟩:=h.port hp
  by_cases hl:inB li c.li=true
  ·have e:Go.Proofs.YtlidfghgjjffaaaGreatDoor.storeM c S j li wd v=(S.put j {x with s:=(storeF c.se c.wa x.s li wd v).1,up:=x.up++(storeF c.se c.wa x.s li wd v).2.2},⟨0,(storeF c.se c.wa x.s li wd v).2.1,msZ,0⟩):=by
    unfold Go.Proofs.YtlidfghgjjffaaaGreatDoor.storeM;rw [hp];exact if_pos hl
   rw [e]
   dsimp only
   obtain ⟨l0,ln⟩:=XL.1 hl
   obtain ⟨i,rfl⟩:∃i:Nat,li=(i:Int):=⟨li.toNat,by omega⟩
   obtain ⟨a,⟨b1,b2,_,b3,b4,b5,b6⟩|⟨b1,b2⟩⟩:=hP.aj.storeF ln wd v
   ·rw [b1,b4,List.append_nil,if_pos rfl]
    refine ⟨?_,fun _=>⟨hb,hl,b2⟩⟩
    obtain ⟨q1,q2⟩:=h.write hj hx ((vw x.s i).2.set wd.toNat v) b3 b5 b6 a storeF_u.2
    rw [q2] at q1
    have e:(fun p:Nat=>if (p:Int)=(i:Int) then (cur p).set wd.toNat v else cur p)=fun p=>if p=i then (cur i).set wd.toNat v else cur p:=by
     funext p
     by_cases hpi:p=i
     ·subst hpi;rw [if_pos rfl,if_pos rfl]
     ·rw [if_neg (by omega),if_neg hpi]
    rw [e]
    exact q1
   ·rw [b1]
    exact ⟨h.ag hj hx b2 a storeF_u.2,fun h=>by cases h⟩
  ·have e:Go.Proofs.YtlidfghgjjffaaaGreatDoor.storeM c S j li wd v=(S,did0):=by unfold Go.Proofs.YtlidfghgjjffaaaGreatDoor.storeM;rw [hp];exact if_neg hl
   rw [e]
   exact ⟨h.next,fun h=>by cases h⟩
theorem Inv.upM (k:Int):Inv c (n+1) (upM c S k).1 cur∧(inB k c.co=true→(upM c S k).2.e=0∨(upM c S k).2.e=14∨(upM c S k).2.e=15):=by
 unfold Go.Proofs.YtlidfghgjjffaaaGreatDoor.upM
 cases hp:Xo c S k with
 |none=>exact ⟨h.next,fun hb=>absurd (hb.symm.trans (h.portNone hp)) (by decide)⟩
 |some x=>
  obtain ⟨j,rfl,hj,hx,_,hP,hb⟩:=h.port hp
  dsimp only
  cases hu:x.up with
  |nil=>exact ⟨h.next,fun _=>.inr (.inl rfl)⟩
  |cons m rest=>
   obtain ⟨i,e,hi,hic,he,hc⟩:=h.up hj hx hu
   have ei:i=m.li.toNat:=by omega
   subst ei
   dsimp only
   rw [he]
   dsimp only
   rcases hc with ⟨_,h2⟩|⟨_,o,a,e',h2,_,_,h3⟩
   ·rw [h2,if_neg (by decide)]
    exact ⟨h.next,fun _=>.inr (.inr rfl)⟩
   ·rw [h2,if_pos rfl]
    exact ⟨h3,fun _=>.inl rfl⟩
theorem Inv.answerM (k:Int):Inv c (n+1) (answerM c S k).1 cur∧(inB k c.co=true→(answerM c S k).2.e=0∨(answerM c S k).2.e=14):=by
 unfold Go.Proofs.YtlidfghgjjffaaaGreatDoor.answerM
 cases hp:Xo c S k with
 |none=>exact ⟨h.next,fun hb=>absurd (hb.symm.trans (h.portNone hp)) (by decide)⟩
 |some x=>
  obtain ⟨j,rfl,hj,hx,_,hP,hb⟩:=h.port hp
  dsimp only
  cases hu:x.an with
  |nil=>exact ⟨h.next,fun _=>.inr rfl⟩
  |cons m rest=>
   obtain ⟨i,e,hi,hic,he,o,a,e',h2,_,_,h3⟩:=h.answer hj hx hu
   dsimp only
   rw [hi,Int.toNat_natCast,he]
   dsimp only
   rw [h2,if_pos rfl]
   exact ⟨h3,fun _=>.inl rfl⟩
end
theorem find_live (xs:List Slt) (li:Int):Qy xs li=((live xs).find? (fun x=>x.li==li)).getD sltZ:=by
 unfold live
 rw [List.find?_filter]
 have e:(fun a:Slt=>decide ((a.st !=0)=true∧(a.li==li)=true))=X9 li:=by
  funext a;unfold X9;by_cases h1:a.st=0<;>by_cases h2:a.li=li<;>simp [h1,h2]
 rw [e]
 rcases Qcc xs li with ⟨_,h2,h3⟩|⟨h1,h3,h2⟩
 ·unfold Qy
  unfold XM at h3
  have hlt:=of_decide_eq_true h3
  have:=List.findIdx_getElem (w:=hlt)
  rw [List.getElem?_eq_getElem hlt]
  have h4:xs.find? (X9 li)=some xs[xs.findIdx (X9 li)]:=by
   rw [List.find?_eq_some_iff_getElem]
   refine ⟨this,xs.findIdx (X9 li),hlt,rfl,fun j hj=>?_⟩
   have:=List.not_of_lt_findIdx hj
   simpa using this
  rw [h4];rfl
 ·rw [h1]
  have:xs.find? (X9 li)=none:=by
   rw [List.find?_eq_none]
   intro x hx
   rw [h2 x hx];decide
  rw [this];rfl
theorem tb_ne (kd st:Int) (h14:kd≠14) (h:tb kd st≠0):(tb kd st=10∧st≠0)∨(tb kd st≠10∧tb kd st≠11∧tb kd st≠st):=by
 unfold tb at *
 repeat' split at h
 all_goals first |omega|simp_all
 all_goals omega
section
variable {c:Cg} {n:Nat} {S:Mst} {cur:Nat→List Int} (h:Inv c n S cur)
include h
theorem Inv.hearM (k:Int):Inv c (n+1) (hearM c S k).1 cur∧(inB k c.co=true→(hearM c S k).2.e=0∨(hearM c S k).2.e=14)∧
 (inB k c.co=true→(hearM c S k).2.e=0→(hearM c S k).2.m.kd≠14→live (atP (hearM c S k).1.ps k.toNat).s.1≠live (atP S.ps k.toNat).s.1):=by
 unfold Go.Proofs.YtlidfghgjjffaaaGreatDoor.hearM
 cases hp:Xo c S k with
 |none=>exact ⟨h.next,fun hb=>absurd (hb.symm.trans (h.portNone hp)) (by decide),fun hb=>absurd (hb.symm.trans (h.portNone hp)) (by decide)⟩
 |some x=>
  obtain ⟨j,rfl,hj,hx,hat,hP,hb⟩:=h.port hp
  dsimp only
  cases hd:x.dn with
  |nil=>exact ⟨h.next,fun _=>.inr rfl,fun _ he=>absurd (show (14:Int)=0 from he) (by decide)⟩
  |cons m rest=>
   obtain ⟨ht,h2,_,_,h3⟩:=h.hear hj hx hd
   dsimp only
   rw [if_pos h2]
   refine ⟨h3,fun _=>.inl rfl,fun _ _ h14 hl=>?_⟩
   rw [Int.toNat_natCast] at hl
   have hk:=(Vg hx).1
   have e0:(S.put (j:Int) {x with s:=(hearF c.se c.wa x.s m).1,an:=x.an++(hearF c.se c.wa x.s m).2.1,dn:=rest}).ps=S.ps.set j {x with s:=(hearF c.se c.wa x.s m).1,an:=x.an++(hearF c.se c.wa x.s m).2.1,dn:=rest}:=by unfold Mst.put;rw [Int.toNat_natCast]
   dsimp only at hl h14
   rw [e0,YV hk,if_pos rfl,hat] at hl
   obtain ⟨m1,m2,m3⟩:=hP.fd m (by rw [hd];simp)
   have hg:(mg m&&Y5 m.kd)=true:=by rw [m1,m2];rfl
   obtain ⟨_,_,_,v10,_,vno⟩:=hP.aj.hearF hg m3 ht
   have hv:(vw (hearF c.se c.wa x.s m).1 m.li).1=(vw x.s m.li).1:=by
    unfold vw
    rw [find_live,find_live (x.s.1),hl]
   rcases tb_ne m.kd _ h14 ht with ⟨q1,q2⟩|⟨q1,q2,q3⟩
   ·rw [v10 q1] at hv;exact q2 hv.symm
   ·rw [vno q1 q2] at hv;exact q3 hv
theorem Inv.pushM (li:Int):Inv c (n+1) (pushM c S li).1 cur:=by
 unfold Go.Proofs.YtlidfghgjjffaaaGreatDoor.pushM
 split
 ·rename_i hl
  obtain ⟨l0,ln⟩:=XL.1 hl
  obtain ⟨i,rfl⟩:∃i:Nat,li=(i:Int):=⟨li.toNat,by omega⟩
  rw [Int.toNat_natCast]
  obtain ⟨e,he,_⟩:=h.entry (i:=i) (by omega)
  rw [he]
  dsimp only
  by_cases hr:Jy e=true
  ·rw [if_pos hr]
   by_cases hv:Qat c S.es i e=0
   ·rw [if_pos hv];exact (h.push (by omega) he hr).2.2.2 hv
   ·rw [if_neg hv]
    dsimp only
    rw [(h.saved (show i<c.li by omega) e).2.1 hv]
    exact h.next
  ·rw [if_neg hr];exact h.next
 ·exact h.next
theorem Inv.dropM (li:Int):Inv c (n+1) (dropM c S li).1 cur:=by
 unfold Go.Proofs.YtlidfghgjjffaaaGreatDoor.dropM
 split
 ·rename_i hl
  obtain ⟨l0,ln⟩:=XL.1 hl
  obtain ⟨i,rfl⟩:∃i:Nat,li=(i:Int):=⟨li.toNat,by omega⟩
  rw [Int.toNat_natCast]
  obtain ⟨e,he,_⟩:=h.entry (i:=i) (by omega)
  rw [he]
  dsimp only
  by_cases hr:Qdg e=true
  ·rw [if_pos hr];exact h.next
  ·rw [if_neg hr]
   by_cases hv:Qat c S.es i e=0
   ·rw [if_pos hv];exact h.drop (by omega) he (by simpa using hr) hv
   ·rw [if_neg hv]
    dsimp only
    rw [(h.saved (show i<c.li by omega) e).2.1 hv]
    exact h.next
 ·exact h.next
theorem Inv.drainM (li:Int):Inv c (n+1) (drainM c S li).1 cur:=by
 unfold Go.Proofs.YtlidfghgjjffaaaGreatDoor.drainM
 split
 ·exact h.drain li
 ·exact h.next
theorem Inv.failM:Inv c (n+1) (failM c S) (fun i=>Go.Proofs.YtlidfghgjjffaaaGreatDoor.ln (failM c S).X i):=by
 refine (Inv.fresh c h.ok (Jn S.X c.vo) ?_).mono (Nat.zero_le _)
 rw [Qda _ _ (by rw [h.lX];have:=h.ok.vol;omega)]
 exact h.lX
end
end
section
structure Ins where
 op:Int
 a:Int
 b:Int
 c:Int
 im:Int
deriving DecidableEq
def insZ:Ins:=⟨0,0,0,0,0⟩
def Ins.enc (i:Ins):List Value:=[.int .i64 i.op,.int .i64 i.a,.int .i64 i.b,.int .i64 i.c,.int .i64 i.im]
def insc (i:Ins):Array Value:=(Ins.enc i).toArray
def hasA (op:Int):Bool:=(decide (1≤op)&&decide (op≤11))||(decide (18≤op)&&decide (op≤21))
def hasB (op:Int):Bool:=(decide (2≤op)&&decide (op≤14))||(decide (18≤op)&&decide (op≤20))
def hasC (op:Int):Bool:=(decide (2≤op)&&decide (op≤7))||(decide (10≤op)&&decide (op≤11))
def hasI (op:Int):Bool:=op==1||(decide (8≤op)&&decide (op≤9))||(decide (12≤op)&&decide (op≤14))||(decide (17≤op)&&decide (op≤20))
def Qac (op:Int):Bool:=decide (17≤op)&&decide (op≤20)
def isOpB (op:Int):Bool:=decide (0≤op)&&decide (op≤22)
def YN (r:Int) (has:Bool):Bool:=if has then decide (0≤r)&&decide (r<8) else r==0
def XR (im:Int) (hi jb:Bool):Bool:=if hi then (if jb&&decide (im<0) then false else decide (-2147483648≤im)&&decide (im≤2147483647)) else im==0
def JJ (im:Int) (op:Int):Bool:=XR im (hasI op) (Qac op)
def YY (i:Ins):Bool:=isOpB i.op&&(YN i.a (hasA i.op)&&(YN i.b (hasB i.op)&&(YN i.c (hasC i.op)&&JJ i.im i.op)))
def JQ (i:Ins):Int:=i.op+i.a*256+i.b*4096+i.c*65536+(i.im % 4294967296)*4294967296
def imOf (h:Int):Int:=if h<2147483648 then h else h- 4294967296
def Qz (u:Int):Ins:=⟨u % 256,u / 256 % 16,u / 4096 % 16,u / 65536 % 16,imOf (u / 4294967296)⟩
def decB (u:Int):Bool:=YY (Qz u)&&JQ (Qz u)==u
def decI (u:Int):Ins:=if decB u then Qz u else insZ
theorem ZB {r:Int} {h:Bool} (g:YN r h=true):0≤r∧r<8:=by
 unfold YN at g
 split at g<;>simp at g<;>omega
theorem goodM_le {m op:Int} (g:JJ m op=true): -2147483648≤m∧m≤2147483647:=by
 unfold JJ XR at g
 split at g
 ·split at g
  ·cases g
  ·simp at g;omega
 ·simp at g;omega
theorem Zw {i:Ins} (g:YY i=true):(0≤i.op∧i.op≤22)∧(0≤i.a∧i.a<8)∧(0≤i.b∧i.b<8)∧(0≤i.c∧i.c<8)∧ -2147483648≤i.im∧i.im≤2147483647:=by
 simp only [YY,isOpB,Bool.and_eq_true,decide_eq_true_eq] at g
 obtain ⟨h1,h2,h3,h4,h5⟩:=g
 exact ⟨h1,ZB h2,ZB h3,ZB h4,goodM_le h5⟩
structure Co where
 id:Int
 ru:Bool
 rg:List Int
 pr:List (Int×Bool)
 pc:Nat
 rm:Nat
 es:List Se
 wt:Nat
def regN (rg:List Int) (a:Nat):Int:=rg.getD a 0
def regA (Q:Co) (r:Int):Int:=regN Q.rg r.toNat
def setR (Q:Co) (r v:Int):Co:={Q with rg:=Q.rg.set r.toNat v}
def YM (Q:Co):Co:={Q with pc:=Q.pc+1}
def Qfc (Q:Co):Co:={Q with ru:=false}
def evC (Q:Co) (kd li wo va:Int):Ev:=⟨kd,Q.id,li,wo,va⟩
def YQ (Q:Co):Bool:=Q.es.isEmpty&&Q.wt==0
structure Qgu where
 S:Mst
 Q:Co
 ev:List Ev
def Qf9 (Q:Co) (i:Ins):Int:=IntKind.u64.wrap (regA Q i.b+IntKind.u64.wrap i.im)
def atB (li ad:Int):Bool:=ad % 8==0&&decide (ad / 64<li)
def lineOf (ad:Int):Int:=ad / 64
def wordOf (ad:Int):Int:=ad % 64 / 8
def Qgg (c:Cg) (S:Mst) (Q:Co) (a li wo:Int):Qgu:=
 match fdO Q.es li wo with
 |some e=>⟨S,YM (setR Q a e.va),[evC Q 2 li wo e.va]⟩
 |none=>if (loadM c S Q.id li wo).2.hit then ⟨(loadM c S Q.id li wo).1,YM (setR Q a (loadM c S Q.id li wo).2.v),[evC Q 1 li wo (loadM c S Q.id li wo).2.v]⟩ else ⟨(loadM c S Q.id li wo).1,Q,[]⟩
def putC (S:Mst) (Q:Co) (kd:Int) (e:Se):Qgu:=
 if sbV Q.rm Q.es e=0 then ⟨S,YM {Q with es:=sbE Q.rm Q.es e},[evC Q kd e.li e.wo e.va]⟩ else ⟨S,Q,[]⟩
def chgV (Q:Co) (i:Ins) (old:Int):Int:=if i.op=10 then regA Q i.c else IntKind.u64.wrap (old+regA Q i.c)
def chgB (Q:Co) (i:Ins) (old:Int):Bool:=if i.op=10 then old==regA Q i.a else true
def Qa9 (c:Cg) (S:Mst) (Q:Co) (i:Ins) (li wo:Int):Qgu:=
 if YQ Q then
  if (reachM c S Q.id li).2.hit then
   if chgB Q i (loadM c (reachM c S Q.id li).1 Q.id li wo).2.v then
    ⟨(storeM c (loadM c (reachM c S Q.id li).1 Q.id li wo).1 Q.id li wo (chgV Q i (loadM c (reachM c S Q.id li).1 Q.id li wo).2.v)).1,YM (setR Q i.a (loadM c (reachM c S Q.id li).1 Q.id li wo).2.v),[evC Q 4 li wo (loadM c (reachM c S Q.id li).1 Q.id li wo).2.v,evC Q 3 li wo (chgV Q i (loadM c (reachM c S Q.id li).1 Q.id li wo).2.v)]⟩
   else ⟨(loadM c (reachM c S Q.id li).1 Q.id li wo).1,YM (setR Q i.a (loadM c (reachM c S Q.id li).1 Q.id li wo).2.v),[evC Q 4 li wo (loadM c (reachM c S Q.id li).1 Q.id li wo).2.v]⟩
  else ⟨(reachM c S Q.id li).1,Q,[]⟩
 else ⟨S,Q,[]⟩
def Xw (c:Cg) (S:Mst) (Q:Co) (i:Ins):Qgu:=
 if atB c.li (Qf9 Q i) then
  if i.op=8 then Qgg c S Q i.a (lineOf (Qf9 Q i)) (wordOf (Qf9 Q i))
  else if i.op=9 then putC S Q 12 ⟨9,lineOf (Qf9 Q i),wordOf (Qf9 Q i),regA Q i.a,false⟩
  else if i.op=10∨i.op=11 then Qa9 c S Q i (lineOf (Qf9 Q i)) (wordOf (Qf9 Q i))
  else putC S Q 14 ⟨i.op,lineOf (Qf9 Q i),0,0,false⟩
 else ⟨S,Qfc Q,[evC Q 10 0 0 0]⟩
def insC (c:Cg) (S:Mst) (Q:Co) (i:Ins):Qgu:=
 if i.op=0 then ⟨S,YM Q,[]⟩
 else if i.op=1 then ⟨S,YM (setR Q i.a (IntKind.u64.wrap i.im)),[]⟩
 else if i.op≤7 then ⟨S,YM (setR Q i.a (doV i.op (regA Q i.b) (regA Q i.c))),[]⟩
 else if 17≤i.op∧i.op≤20 then ⟨S,(if goV i.op (regA Q i.a) (regA Q i.b) then {Q with pc:=i.im.toNat} else YM Q),[]⟩
 else if i.op=21 then ⟨S,YM Q,[evC Q 8 0 0 (regA Q i.a)]⟩
 else if i.op=22 then ⟨S,Qfc Q,[evC Q 9 0 0 0]⟩
 else if i.op=15∨i.op=16 then (if YQ Q then ⟨S,YM Q,[evC Q 7 0 0 0]⟩ else ⟨S,Q,[]⟩)
 else Xw c S Q i
def QO (Q:Co) (u:Int):Co:={Q with pr:=Q.pr.set Q.pc (u,true)}
def Qb2 (c:Cg) (S:Mst) (Q:Co):Qgu:=
 if Q.ru then
  match Q.pr[Q.pc]? with
  |none=>⟨S,Qfc Q,[evC Q 10 0 0 0]⟩
  |some (u,_)=>if decB u then insC c S (QO Q u) (Qz u) else ⟨S,Qfc (QO Q u),[evC Q 10 0 0 0]⟩
 else ⟨S,Q,[]⟩
def JS (kd:Int):Int:=if kd=12 then 4 else 5
def JZ (c:Cg) (S:Mst) (Q:Co):Qgu:=
 match Q.es with
 |[]=>⟨S,Q,[]⟩
 |e::rest=>
  if e.kd=9 then
   if (storeM c S Q.id e.li e.wo e.va).2.hit then ⟨(storeM c S Q.id e.li e.wo e.va).1,{Q with es:=rest},[evC Q 3 e.li e.wo e.va]⟩ else ⟨(storeM c S Q.id e.li e.wo e.va).1,Q,[]⟩
  else if e.sn then (if Q.wt=0 then ⟨S,{Q with es:=rest},[]⟩ else ⟨S,Q,[]⟩)
  else if 16≤Q.wt then ⟨S,Q,[]⟩
  else if (flushM c S Q.id e.li (JS e.kd)).2.e=0 then ⟨(flushM c S Q.id e.li (JS e.kd)).1,{Q with es:=(if e.kd=14 then sent e::rest else rest),wt:=Q.wt+1},[evC Q 13 e.li 0 0]⟩
  else ⟨(flushM c S Q.id e.li (JS e.kd)).1,Q,[]⟩
def Qdh (Q:Co) (m:Ms):Co×List Ev:=
 if Q.wt=0∨m.kd≠14 then (Q,[]) else ({Q with wt:=Q.wt-1},[evC Q 6 m.li 0 0])
end
section
theorem Ins.len (i:Ins):(Ins.enc i).length=5:=rfl
theorem Ins.one (i:Ins):∀v∈Ins.enc i,v.oneCell'=true:=by
 intro v hv
 simp only [Ins.enc,List.mem_cons,Vn,or_false] at hv
 rcases hv with rfl|rfl|rfl|rfl|rfl<;>rfl
theorem QE (i:Ins):(insc i).size=5:=by simp [insc,Ins.enc]
theorem ZI (i:Ins):Qab (insc i):=Qp _ (List.all_eq_true.2 (Ins.one i))
theorem Xe (i:Ins):(insc i)[0]? =some (.int .i64 i.op):=rfl
theorem XK (i:Ins):(insc i)[1]? =some (.int .i64 i.a):=rfl
theorem XJ (i:Ins):(insc i)[2]? =some (.int .i64 i.b):=rfl
theorem XI (i:Ins):(insc i)[3]? =some (.int .i64 i.c):=rfl
theorem Xg (i:Ins):(insc i)[4]? =some (.int .i64 i.im):=rfl
theorem ZJ (o a b c m:Int):(#[.int .i64 o,.int .i64 a,.int .i64 b,.int .i64 c,.int .i64 m]:Array Value)=insc ⟨o,a,b,c,m⟩:=rfl
theorem XH:insc ⟨0,0,0,0,0⟩=insc insZ:=rfl
theorem Qct (i:Ins) (v:Int):(insc i).setIfInBounds 0 (.int .i64 v)=insc ⟨v,i.a,i.b,i.c,i.im⟩:=by simp [insc,Ins.enc]
theorem Qcs (i:Ins) (v:Int):(insc i).setIfInBounds 1 (.int .i64 v)=insc ⟨i.op,v,i.b,i.c,i.im⟩:=by simp [insc,Ins.enc]
theorem Qcr (i:Ins) (v:Int):(insc i).setIfInBounds 2 (.int .i64 v)=insc ⟨i.op,i.a,v,i.c,i.im⟩:=by simp [insc,Ins.enc]
theorem Qcq (i:Ins) (v:Int):(insc i).setIfInBounds 3 (.int .i64 v)=insc ⟨i.op,i.a,i.b,v,i.im⟩:=by simp [insc,Ins.enc]
theorem Qcp (i:Ins) (v:Int):(insc i).setIfInBounds 4 (.int .i64 v)=insc ⟨i.op,i.a,i.b,i.c,v⟩:=by simp [insc,Ins.enc]
theorem insZ_op:insZ.op=0:=rfl
theorem insZ_a:insZ.a=0:=rfl
theorem insZ_b:insZ.b=0:=rfl
theorem insZ_c:insZ.c=0:=rfl
theorem insZ_im:insZ.im=0:=rfl
theorem Xf (i:Ins):(insc i=#[])=False:=eq_false (fun h=>by have:=congrArg Array.size h;rw [QE] at this;cases this)
def stI (x:Int×Bool):Ins:=if x.2 then decI x.1 else insZ
def stG (x:Int×Bool):Bool:=x.2&&decB x.1
def stD (x:Int×Bool):Int:=if x.2 then 1 else 0
def coc (id:Int) (ru:Bool) (rg:List Int) (pb np:Nat) (pc:Int) (qb:Nat) (wt:Int):Array Value:=
 (.int .i64 id::.bool ru::(rg.map (Value.int .u64)++[.slice (some ⟨pb,0,none⟩) np np,.int .i64 pc,.pointer (some ⟨qb,0,none⟩),.int .i64 wt])).toArray
section
variable {rg:List Int} (h8:rg.length=8) (id:Int) (ru:Bool) (pb np:Nat) (pc:Int) (qb:Nat) (wt:Int)
theorem YC:(coc id ru rg pb np pc qb wt)[0]? =some (.int .i64 id):=by simp [coc]
theorem Yy:(coc id ru rg pb np pc qb wt)[1]? =some (.bool ru):=by simp [coc]
theorem QS (v:Bool):(coc id ru rg pb np pc qb wt).setIfInBounds 1 (.bool v)=coc id v rg pb np pc qb wt:=by simp [coc]
include h8
theorem Xv {a:Nat} (ha:a<8):(coc id ru rg pb np pc qb wt)[2+a]? =some (.int .u64 (regN rg a)):=by
 unfold coc regN
 rw [Nat.add_comm 2,List.getElem?_toArray,List.getElem?_cons_succ,List.getElem?_cons_succ,List.getElem?_append_left (by simp [h8];exact ha),List.getElem?_map]
 rw [List.getElem?_eq_getElem (by omega),List.getD_eq_getElem?_getD,List.getElem?_eq_getElem (by omega)]
 rfl
theorem YA:(coc id ru rg pb np pc qb wt)[10]? =some (.slice (some ⟨pb,0,none⟩) np np):=by
 unfold coc
 rw [List.getElem?_toArray,List.getElem?_cons_succ,List.getElem?_cons_succ,List.getElem?_append_right (by simp [h8])]
 simp [h8]
theorem YB:(coc id ru rg pb np pc qb wt)[11]? =some (.int .i64 pc):=by
 unfold coc
 rw [List.getElem?_toArray,List.getElem?_cons_succ,List.getElem?_cons_succ,List.getElem?_append_right (by simp [h8])]
 simp [h8]
theorem Yz:(coc id ru rg pb np pc qb wt)[12]? =some (.pointer (some ⟨qb,0,none⟩)):=by
 unfold coc
 rw [List.getElem?_toArray,List.getElem?_cons_succ,List.getElem?_cons_succ,List.getElem?_append_right (by simp [h8])]
 simp [h8]
theorem Yx:(coc id ru rg pb np pc qb wt)[13]? =some (.int .i64 wt):=by
 unfold coc
 rw [List.getElem?_toArray,List.getElem?_cons_succ,List.getElem?_cons_succ,List.getElem?_append_right (by simp [h8])]
 simp [h8]
theorem QT (v:Int):(coc id ru rg pb np pc qb wt).setIfInBounds 11 (.int .i64 v)=coc id ru rg pb np v qb wt:=by
 unfold coc
 rw [List.setIfInBounds_toArray,List.set_cons_succ,List.set_cons_succ,List.set_append_right _ _ (by simp [h8])]
 simp [h8]
theorem QR (v:Int):(coc id ru rg pb np pc qb wt).setIfInBounds 13 (.int .i64 v)=coc id ru rg pb np pc qb v:=by
 unfold coc
 rw [List.setIfInBounds_toArray,List.set_cons_succ,List.set_cons_succ,List.set_append_right _ _ (by simp [h8])]
 simp [h8]
theorem QK {a:Nat} (ha:a<8) (v:Int):(coc id ru rg pb np pc qb wt).setIfInBounds (2+a) (.int .u64 v)=coc id ru (rg.set a v) pb np pc qb wt:=by
 unfold coc
 rw [Nat.add_comm 2,List.setIfInBounds_toArray,List.set_cons_succ,List.set_cons_succ,List.set_append_left _ _ (by simp [h8];exact ha),List.map_set]
end
end
section
theorem Xb:Wide Tryz.prog 65 5:=⟨⟨_,Tryz.underlying65,by rfl⟩,by kernel_rfl⟩
theorem Xd (x:Value):Instr.loadAt 65 x=Qdf 65 5 x:=rfl
theorem ZF (x y:Value):Instr.storeAt 65 x y=Qar 65 5 x y:=rfl
def pts (a b c i j:Bool):Array Value:=#[.bool a,.bool b,.bool c,.bool i,.bool j]
theorem pts_lit (a b c i j:Bool):(#[.bool a,.bool b,.bool c,.bool i,.bool j]:Array Value)=pts a b c i j:=rfl
theorem Qbd (a b c i j:Bool):(pts a b c i j).size=5:=by simp [pts]
theorem pts_one (a b c i j:Bool):Qab (pts a b c i j):=by simp [Qab,pts,Value.oneCell']
theorem pts_0 (a b c i j:Bool):(pts a b c i j)[0]? =some (.bool a):=rfl
theorem pts_1 (a b c i j:Bool):(pts a b c i j)[1]? =some (.bool b):=rfl
theorem pts_2 (a b c i j:Bool):(pts a b c i j)[2]? =some (.bool c):=rfl
theorem pts_3 (a b c i j:Bool):(pts a b c i j)[3]? =some (.bool i):=rfl
theorem pts_4 (a b c i j:Bool):(pts a b c i j)[4]? =some (.bool j):=rfl
theorem pts_ne (a b c i j:Bool):(pts a b c i j=#[])=False:=eq_false (fun h=>by have:=congrArg Array.size h;rw [Qbd] at this;cases this)
theorem Qhl (a b c i j v:Bool):(pts a b c i j).setIfInBounds 0 (.bool v)=pts v b c i j:=by simp [pts]
theorem Qhk (a b c i j v:Bool):(pts a b c i j).setIfInBounds 1 (.bool v)=pts a v c i j:=by simp [pts]
theorem Qhj (a b c i j v:Bool):(pts a b c i j).setIfInBounds 2 (.bool v)=pts a b v i j:=by simp [pts]
theorem Qhi (a b c i j v:Bool):(pts a b c i j).setIfInBounds 3 (.bool v)=pts a b c v j:=by simp [pts]
theorem Qhh (a b c i j v:Bool):(pts a b c i j).setIfInBounds 4 (.bool v)=pts a b c i v:=by simp [pts]
theorem widePts:Wide Tryz.prog 331 5:=⟨⟨_,Tryz.underlying331,by rfl⟩,by kernel_rfl⟩
theorem loadPts (x:Value):Instr.loadAt 331 x=Qdf 331 5 x:=rfl
theorem Qhd (x y:Value):Instr.storeAt 331 x y=Qar 331 5 x y:=rfl
attribute [local go_sem ↓] QG Qs Qk Qh heap_alloc Ql heap_setCell Qc Xd ZF loadPts Qhd Xe XK XJ XI Xg pts_0 pts_1 pts_2 pts_3 pts_4
attribute [local go_sem] Qb Qa Qe Qi Qd Qg Qf QB Qw QJ QA Qr QD QX QI Qq QC Qp Qj Qo Qn Xb widePts QE ZI Xf ZJ XH Qct Qcs Qcr Qcq Qcp pts_lit Qbd pts_one pts_ne Qhl Qhk Qhj Qhi Qhh
attribute [local simp ↓] Qk Qh heap_alloc Ql heap_setCell Qc
attribute [local simp] Qb Qa Qe Qi Qd Qg Qf Qr Qj Qo Qn QE Qbd QD
theorem iisop (op:Int) (w:World):Calls Tryz.prog 257 #[.int .i64 op] w fun e w'=>e=.returned (.bool (isOpB op))∧w=w':=by
 unfold isOpB
 cases h1:decide (0≤op)
 ·go_enter Tryz.func257,Tryz.ntmps257
  go_wp2
  go_ret
  exact ⟨rfl,rfl⟩
 ·go_enter Tryz.func257,Tryz.ntmps257
  go_wp2
  go_ret
  exact ⟨rfl,rfl⟩
theorem Qbp (r:Int) (h:Bool) (w:World):Calls Tryz.prog 259 #[.int .i64 r,.bool h] w fun e w'=>e=.returned (.bool (YN r h))∧w=w':=by
 cases h
 ·rw [show YN r false=(r==0) from rfl]
  go_enter Tryz.func259,Tryz.ntmps259
  go_wp2
  go_ret
  exact ⟨rfl,rfl⟩
 ·rw [show YN r true=(decide (0≤r)&&decide (r<8)) from rfl]
  cases h1:decide (0≤r)
  ·go_enter Tryz.func259,Tryz.ntmps259
   go_wp2
   go_ret
   exact ⟨rfl,rfl⟩
  ·go_enter Tryz.func259,Tryz.ntmps259
   go_wp2
   go_ret
   exact ⟨rfl,rfl⟩
theorem igoodImm (m:Int) (a b c i j:Bool) (w:World):Calls Tryz.prog 260 #[.int .i64 m,.agg (pts a b c i j)] w fun e w'=>e=.returned (.bool (XR m i j))∧Chg [] w w':=by
 have hc:∀x,(w.alloc (.cells (pts a b c i j) 331))=x→Chg [] w x:=fun x h=>h▸(Chg.refl [] w).alloc _
 cases i
 ·rw [show XR m false j=(m==0) from rfl]
  go_enter Tryz.func260,Tryz.ntmps260
  go_wp2
  go_ret
  exact ⟨rfl,hc _ rfl⟩
 cases j
 ·rw [show XR m true false=(decide (-2147483648≤m)&&decide (m≤2147483647)) from rfl]
  cases h1:decide (-2147483648≤m)
  ·go_enter Tryz.func260,Tryz.ntmps260
   go_wp2
   go_ret
   exact ⟨rfl,hc _ rfl⟩
  ·go_enter Tryz.func260,Tryz.ntmps260
   go_wp2
   go_ret
   exact ⟨rfl,hc _ rfl⟩
 ·cases h0:decide (m<0)
  ·rw [show XR m true true=(decide (-2147483648≤m)&&decide (m≤2147483647)) by unfold XR;rw [h0];rfl]
   cases h1:decide (-2147483648≤m)
   ·go_enter Tryz.func260,Tryz.ntmps260
    go_wp2
    go_ret
    exact ⟨rfl,hc _ rfl⟩
   ·go_enter Tryz.func260,Tryz.ntmps260
    go_wp2
    go_ret
    exact ⟨rfl,hc _ rfl⟩
  ·rw [show XR m true true=false by unfold XR;rw [h0];rfl]
   go_enter Tryz.func260,Tryz.ntmps260
   go_wp2
   go_ret
   exact ⟨rfl,hc _ rfl⟩
theorem results_pts {fn:Func} {p:Tmp} (h:fn.results=#[.cell p 331]) (tmps:Array Value) (w:World) (q:Nat) (a b c i j:Bool) (fr:Nat×Nat)
 (hp:tmps.getD p undef=.pointer (some ⟨q,0,none⟩)) (hb:w.heap[q]? =some (.cells (pts a b c i j) 331 fr)):(results fn tmps).run Tryz.prog w=.ok (.agg (pts a b c i j)) w:=by
 have hp':tmps[p]?.getD undef=.pointer (some ⟨q,0,none⟩):=by simpa using hp
 have:=run_loadVar_row (P:=Tryz.prog) w q 331 331 (pts a b c i j) fr _ hb Tryz.underlying331 rfl (by rw [Qbd];kernel_rfl)
 simp [results,h,hp',asAddr,this]
theorem iparts_at (op:Int) (a b c i j:Bool) (h0:0≤op) (h22:op≤22) (ha:hasA op=a) (hb:hasB op=b) (hc:hasC op=c) (hi:hasI op=i) (hj:Qac op=j) (w:World):Calls Tryz.prog 258 #[.int .i64 op] w fun e w'=>e=.returned (.agg (pts a b c i j))∧Chg [] w w':=by
 have h:op=0∨op=1∨op=2∨op=3∨op=4∨op=5∨op=6∨op=7∨op=8∨op=9∨op=10∨op=11∨op=12∨op=13∨op=14∨op=15∨op=16∨op=17∨op=18∨op=19∨op=20∨op=21∨op=22:=by omega
 clear h0 h22
 rcases h with rfl|rfl|rfl|rfl|rfl|rfl|rfl|rfl|rfl|rfl|rfl|rfl|rfl|rfl|rfl|rfl|rfl|rfl|rfl|rfl|rfl|rfl|rfl
 all_goals
  subst ha hb hc hi hj
  go_enter Tryz.func258,Tryz.ntmps258
  try dsimp only [List.append]
  go_wp2_with fail
  refine bodyPost_ret (v:=.agg (pts _ _ _ _ _)) (results_pts (by rfl) _ _ w.heap.size _ _ _ _ _ (0,0) (by rfl) (by simp;try rfl)) (by rfl) ⟨rfl,(Chg.refl [] w).alloc _⟩
end
end Go.Proofs.YtlidfghgjjffaaaGreatDoor
