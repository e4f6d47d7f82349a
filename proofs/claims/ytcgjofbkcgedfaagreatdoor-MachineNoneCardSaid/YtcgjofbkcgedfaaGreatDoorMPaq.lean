/- Texts of the walk, one behind the other: Mci Qtu Cou Rea. No condition. -/
import Derived.Test.YtcgjofbkcgedfaaGreatDoorMPaa
import Derived.Test.YtcgjofbkcgedfaaGreatDoorMPam
import Derived.Test.YtcgjofbkcgedfaaGreatDoorMPao
import Derived.Test.YtcgjofbkcgedfaaGreatDoorMPap
namespace Go.Proofs.YtcgjofbkcgedfaaGreatDoor
open Go.RowKit
set_option linter.unusedVariables false
set_option maxHeartbeats 1000000
section
set_option linter.unusedSectionVars false
structure Kp where
 kb:Nat
 pb:Nat
 qb:Nat
def Kp.foot (p:Kp):List Nat:=[p.kb,p.pb,p.qb]
def pke (p:Kp):List Value:=[.pointer (some ⟨p.kb,0,none⟩)]
theorem pke_len (p:Kp):(pke p).length=1:=rfl
theorem pke_one (p:Kp):∀v∈pke p,v.oneCell'=true:=by intro v hv;simp only [pke,List.mem_singleton] at hv;subst hv;rfl
def mcc (sy cb n:Nat) (RA:Option Addr) (rn rc:Nat) (fa:Nat):Array Value:=#[.pointer (some ⟨sy,0,none⟩),.slice (some ⟨cb,0,none⟩) n n,.slice RA rn rc,.int .i64 (fa:Int)]
def Xn (ks:List Kp):List Nat:=(ks.map Kp.foot).flatten
theorem Y6 {ks:List Kp} {b:Nat}:b∈Xn ks↔∃(j:Nat) (p:Kp),ks[j]? =some p∧b∈p.foot:=by
 unfold Xn
 simp only [List.mem_flatten,List.mem_map]
 constructor
 ·rintro ⟨l,⟨p,hp,rfl⟩,hb⟩
  obtain ⟨j,hj⟩:=List.getElem?_of_mem hp
  exact ⟨j,p,hj,hb⟩
 ·rintro ⟨j,p,hj,hb⟩
  exact ⟨_,⟨p,List.mem_of_getElem? hj,rfl⟩,hb⟩
theorem Sl.keep0 {w w':World} {size:Nat} {A:Option Addr} {n:Nat} {xs:List Value} {l:List Nat} (h:Sl w size A n xs) (hc:Chg l w w') (hA:0<n→∀a,A=some a→a.block∉l):Sl w' size A n xs:=by
 rcases Nat.eq_zero_or_pos n with h0|h0
 ·exact ⟨h.1,.inl h0⟩
 ·exact h.chg hc (hA h0)
structure MaM (W w:World) (c:Cg) (mp cb sy:Nat) (F:List Nat) (ks:List Kp) (RA:Option Addr) (rcap:Nat) (M:Mac):Prop where
 own:w.heap[mp]? =some (.cells (mcc sy cb c.co RA M.rc.length rcap M.fa) 91 (0,0))
 cors:w.heap[cb]? =some (.cells (sq pke ks []) 62 (0,0))
 kl:ks.length=c.co
 cl:M.cs.length=c.co
 sys:MS W w c sy F M.S
 co:∀(j:Nat) (p:Kp) (Q:Co),ks[j]? =some p→M.cs[j]? =some Q→Cor w p.kb p.pb p.qb Q
 rcs:Sl w 1 RA M.rc.length (M.rc.map (Value.int .u64))
 ne:mp≠cb
 km:∀(j:Nat) (p:Kp),ks[j]? =some p→mp∉p.foot∧cb∉p.foot
 kd:∀(i j:Nat) (p q:Kp),i≠j→ks[i]? =some p→ks[j]? =some q→∀b∈p.foot,b∉q.foot
 dm:mp∉F
 dc:cb∉F
 dk:∀(j:Nat) (p:Kp),ks[j]? =some p→∀b∈p.foot,b∉F
 rd:0<M.rc.length→∀a:Addr,RA=some a→a.block∉mp::cb::(Xn ks++F)
 new:∀b∈mp::cb::Xn ks,W.heap.size≤b
def MaS (W w:World) (c:Cg) (mp:Nat) (RA:Option Addr) (rcap:Nat) (Ft:List Nat) (M:Mac):Prop:=∃(cb sy:Nat) (F:List Nat) (ks:List Kp),Ft=mp::cb::(Xn ks++F)∧MaM W w c mp cb sy F ks RA rcap M
def EvsAt (w:World) (B:Nat) (Ft:List Nat) (v:Value) (l:List Ev):Prop:=∃(A:Option Addr) (cap:Nat),v=.slice A l.length cap∧Sl w 5 A l.length (cat Ev.enc l)∧(0<l.length→∀a:Addr,A=some a→B≤a.block∧a.block∉Ft)
theorem EvsAt.nil (w:World) (B:Nat) (Ft:List Nat):EvsAt w B Ft (.slice none 0 0) []:=⟨none,0,rfl,⟨rfl,.inl rfl⟩,fun h=>by simp at h⟩
def DoTo (W w:World) (c:Cg) (mp:Nat) (RA:Option Addr) (rcap:Nat) (Ft:List Nat) (r:Mac×List Ev) (e:Ending) (w':World):Prop:=
 ∃v Ft',e=.returned v∧EvsAt w' w.heap.size Ft' v r.2∧MaS W w' c mp RA rcap Ft' r.1∧Chg Ft w w'∧∀b∈Ft',b∈Ft∨w.heap.size≤b
section
variable {W w w':World} {c:Cg} {mp cb sy:Nat} {F:List Nat} {ks:List Kp} {RA:Option Addr} {rcap:Nat} {M:Mac} (h:MaM W w c mp cb sy F ks RA rcap M)
include h
theorem MaM.allChg:Chg [] W w:=Mem.chg h.sys
theorem MaM.oldF:∀b∈F,b<w.heap.size:=Mem.old h.sys
theorem MaM.kAt {j:Nat} (hj:j<c.co):∃p Q,ks[j]? =some p∧M.cs[j]? =some Q:=⟨ks[j]'(by rw [h.kl];exact hj),M.cs[j]'(by rw [h.cl];exact hj),List.getElem?_eq_getElem _,List.getElem?_eq_getElem _⟩
theorem MaM.oldK {j:Nat} {p:Kp} (hp:ks[j]? =some p):∀b∈p.foot,b<w.heap.size:=by
 have hj:j<c.co:=by rw [←h.kl];exact (Vg hp).1
 obtain ⟨p',Q,h1,h2⟩:=h.kAt hj
 rw [hp] at h1
 cases h1
 have hc:=h.co j p Q hp h2
 intro b hb
 simp only [Kp.foot,List.mem_cons,Vn,or_false] at hb
 rcases hb with rfl|rfl|rfl
 ·exact hc.oldk.lt
 ·exact hc.oldp.lt
 ·exact hc.oldq.lt
theorem MaM.oldAll:∀b∈mp::cb::(Xn ks++F),b<w.heap.size:=by
 intro b hb
 simp only [List.mem_cons,List.mem_append] at hb
 rcases hb with rfl|rfl|hb|hb
 ·exact (old h.own).lt
 ·exact (old h.cors).lt
 ·obtain ⟨j,p,hp,hb⟩:=Y6.1 hb
  exact h.oldK hp b hb
 ·exact h.oldF b hb
theorem MaM.keepL {l:List Nat} (hc:Chg l w w') (hl:∀b∈l,b∉mp::cb::(Xn ks++F)) (hw:∀b∈l,W.heap.size≤b) (hr:0<M.rc.length→∀a:Addr,RA=some a→a.block∉l):MaM W w' c mp cb sy F ks RA rcap M:=by
 have hm:mp∉l:=fun e=>hl _ e (by simp)
 have hb:cb∉l:=fun e=>hl _ e (by simp)
 have hk:∀(j:Nat) (p:Kp),ks[j]? =some p→∀b∈p.foot,b∉l:=fun j p hp b hb e=>hl _ e (by simp only [List.mem_cons,List.mem_append];exact .inr (.inr (.inl (Y6.2 ⟨j,p,hp,hb⟩))))
 refine {h with own:=hc.keep h.own hm,cors:=hc.keep h.cors hb,sys:=Mem.keepL h.sys hc (fun b hb e=>hl b hb (by simp [e])) hw,co:=fun j p Q hp hq=>?_,rcs:=h.rcs.keep0 hc hr}
 exact (h.co j p Q hp hq).keep hc (hk j p hp _ (by simp [Kp.foot])) (hk j p hp _ (by simp [Kp.foot])) (hk j p hp _ (by simp [Kp.foot]))
theorem MaM.keep0 (hc:Chg [] w w'):MaM W w' c mp cb sy F ks RA rcap M:=h.keepL hc (by simp) (by simp) (by simp)
theorem MaM.mas:MaS W w c mp RA rcap (mp::cb::(Xn ks++F)) M:=⟨cb,sy,F,ks,rfl,h⟩
theorem MaM.sysTo {S':Mst} (m:MTS W w c sy F S' w'):∃F',MaM W w' c mp cb sy F' ks RA rcap (M.sys S')∧Chg (mp::cb::(Xn ks++F)) w w'∧∀b∈mp::cb::(Xn ks++F'),b∈mp::cb::(Xn ks++F)∨w.heap.size≤b:=by
 obtain ⟨F',hm,hc,hF⟩:=m
 have hne:∀b,b<w.heap.size→b∉F→b∉F':=fun b h1 h2 h3=>by
  rcases hF b h3 with h4|h4
  ·exact h2 h4
  ·omega
 have om:=(old h.own).lt
 have oc:=(old h.cors).lt
 refine ⟨F',{own:=hc.keep h.own h.dm,cors:=hc.keep h.cors h.dc,kl:=h.kl,cl:=h.cl,sys:=hm,co:=fun j p Q hp hq=>(h.co j p Q hp hq).keep hc (h.dk j p hp _ (by simp [Kp.foot])) (h.dk j p hp _ (by simp [Kp.foot])) (h.dk j p hp _ (by simp [Kp.foot])),rcs:=h.rcs.keep0 hc (fun h0 a ha e=>h.rd h0 a ha (by simp [e])),ne:=h.ne,km:=h.km,kd:=h.kd,dm:=hne _ om h.dm,dc:=hne _ oc h.dc,dk:=fun j p hp b hb=>hne b (h.oldK hp b hb) (h.dk j p hp b hb),rd:=fun h0 a ha=>?_,new:=h.new},hc.mono (by intro b hb;left;simp [hb]),?_⟩
 ·have h1:=h.rd h0 a ha
  simp only [List.mem_cons,List.mem_append,not_or] at h1 ⊢
  refine ⟨h1.1,h1.2.1,h1.2.2.1,hne _ ?_ h1.2.2.2⟩
  have h0':0<M.rc.length:=h0
  have:=h.rcs
  rcases this.2 with h2|⟨b,o,cs,t,f,h2,h3,_⟩
  ·omega
  ·rw [ha] at h2
   cases h2
   exact Xe h3
 ·intro b hb
  simp only [List.mem_cons,List.mem_append] at hb ⊢
  rcases hb with h1|h1|h1|h1
  ·exact .inl (.inl h1)
  ·exact .inl (.inr (.inl h1))
  ·exact .inl (.inr (.inr (.inl h1)))
  ·rcases hF b h1 with h2|h2
   ·exact .inl (.inr (.inr (.inr h2)))
   ·exact .inr h2
theorem MaM.cs {j:Nat} {p:Kp} {Q:Co} (hp:ks[j]? =some p) (hQ:M.cs[j]? =some Q):CS W w c sy F M.S p.kb p.pb p.qb Q:=by
 have hn:∀b∈p.foot,W.heap.size≤b:=fun b hb=>h.new b (by simp only [List.mem_cons];exact .inr (.inr (Y6.2 ⟨j,p,hp,hb⟩)))
 exact ⟨h.sys,h.co j p Q hp hQ,h.dk j p hp _ (by simp [Kp.foot]),h.dk j p hp _ (by simp [Kp.foot]),h.dk j p hp _ (by simp [Kp.foot]),hn _ (by simp [Kp.foot]),hn _ (by simp [Kp.foot]),hn _ (by simp [Kp.foot])⟩
theorem MaM.coreTo {j:Nat} {p:Kp} {Q Q':Co} {S':Mst} {F':List Nat} (hp:ks[j]? =some p) (hQ:M.cs[j]? =some Q) (hcs:CS W w' c sy F' S' p.kb p.pb p.qb Q') (hc:Chg (p.kb::p.pb::p.qb::F) w w') (hF:∀b∈F',b∈F∨w.heap.size≤b):
 MaM W w' c mp cb sy F' ks RA rcap (M.core (j:Int) S' Q')∧Chg (mp::cb::(Xn ks++F)) w w'∧∀b∈mp::cb::(Xn ks++F'),b∈mp::cb::(Xn ks++F)∨w.heap.size≤b:=by
 have hjl:j<M.cs.length:=(Vg hQ).1
 have hne:∀b,b<w.heap.size→b∉F→b∉F':=fun b h1 h2 h3=>by
  rcases hF b h3 with h4|h4
  ·exact h2 h4
  ·omega
 have hin:∀b,b∉p.foot→b∉F→b∉p.kb::p.pb::p.qb::F:=fun b h1 h2 h3=>by
  simp only [Kp.foot,List.mem_cons,Vn,or_false,not_or] at h1
  simp only [List.mem_cons] at h3
  rcases h3 with h3|h3|h3|h3
  ·exact h1.1 h3
  ·exact h1.2.1 h3
  ·exact h1.2.2 h3
  ·exact h2 h3
 have om:=(old h.own).lt
 have oc:=(old h.cors).lt
 have hkm:=h.km j p hp
 refine ⟨{own:=hc.keep h.own (hin _ hkm.1 h.dm),cors:=hc.keep h.cors (hin _ hkm.2 h.dc),kl:=h.kl,cl:=by show (M.cs.set _ _).length=_;rw [List.length_set];exact h.cl,sys:=hcs.ms,co:=fun i q q' hq hq'=>?_,rcs:=h.rcs.keep0 hc (fun h0 a ha e=>?_),ne:=h.ne,km:=h.km,kd:=h.kd,dm:=hne _ om h.dm,dc:=hne _ oc h.dc,dk:=fun i q hq b hb=>hne b (h.oldK hq b hb) (h.dk i q hq b hb),rd:=fun h0 a ha=>?_,new:=h.new},hc.mono ?_,?_⟩
 ·have hq2:(M.cs.set j Q')[i]? =some q':=by simpa [Mac.core] using hq'
  rw [List.getElem?_set] at hq2
  split at hq2
  ·rename_i e
   subst e
   cases hq2
   rw [hp] at hq
   cases hq
   exact hcs.co
  ·rename_i e
   have hd:=h.kd i j q p (fun e'=>e e'.symm) hq hp
   exact (h.co i q q' hq hq2).keep hc (hin _ (hd _ (by simp [Kp.foot])) (h.dk i q hq _ (by simp [Kp.foot]))) (hin _ (hd _ (by simp [Kp.foot])) (h.dk i q hq _ (by simp [Kp.foot]))) (hin _ (hd _ (by simp [Kp.foot])) (h.dk i q hq _ (by simp [Kp.foot])))
 ·have h1:=h.rd h0 a ha
  simp only [List.mem_cons,List.mem_append,not_or] at h1
  refine hin _ (fun hf=>h1.2.2.1 (Y6.2 ⟨j,p,hp,hf⟩)) h1.2.2.2 e
 ·have h1:=h.rd h0 a ha
  simp only [List.mem_cons,List.mem_append,not_or] at h1 ⊢
  refine ⟨h1.1,h1.2.1,h1.2.2.1,hne _ ?_ h1.2.2.2⟩
  have h0':0<M.rc.length:=h0
  have:=h.rcs
  rcases this.2 with h2|⟨b,o,cs,t,f,h2,h3,_⟩
  ·omega
  ·rw [ha] at h2
   cases h2
   exact Xe h3
 ·intro b hb
  left
  simp only [List.mem_cons,List.mem_append] at hb ⊢
  rcases hb with h1|h1|h1|h1
  ·exact .inr (.inr (.inl (Y6.2 ⟨j,p,hp,by simp [Kp.foot,h1]⟩)))
  ·exact .inr (.inr (.inl (Y6.2 ⟨j,p,hp,by simp [Kp.foot,h1]⟩)))
  ·exact .inr (.inr (.inl (Y6.2 ⟨j,p,hp,by simp [Kp.foot,h1]⟩)))
  ·exact .inr (.inr (.inr h1))
 ·intro b hb
  simp only [List.mem_cons,List.mem_append] at hb ⊢
  rcases hb with h1|h1|h1|h1
  ·exact .inl (.inl h1)
  ·exact .inl (.inr (.inl h1))
  ·exact .inl (.inr (.inr (.inl h1)))
  ·rcases hF b h1 with h2|h2
   ·exact .inl (.inr (.inr (.inr h2)))
   ·exact .inr h2
theorem MaM.told {j:Nat} {p:Kp} {Q Q':Co} {S':Mst} {l:List Ev} {e:Ending} (hp:ks[j]? =some p) (hQ:M.cs[j]? =some Q) (hd:CSTo W w c sy F p.kb p.pb p.qb S' Q' l e w'):DoTo W w c mp RA rcap (mp::cb::(Xn ks++F)) (M.core (j:Int) S' Q',l) e w':=by
 obtain ⟨v,F',he,⟨A,cap,be,hv,h1,h2,h3⟩,hcs,hc,hF⟩:=hd
 obtain ⟨m1,m2,m3⟩:=h.coreTo hp hQ hcs hc hF
 refine ⟨v,_,he,⟨A,cap,hv,h1.sl Ev.len,fun h0 a ha=>?_⟩,m1.mas,m2,m3⟩
 obtain ⟨h4,h5,_⟩:=h1.there h0
 rw [h5] at ha
 cases ha
 have h6:=h2.resolve_left h4
 have h7:=h3.resolve_left h4
 refine ⟨h6,fun hm=>?_⟩
 have ha:=h.oldAll be
 simp only [List.mem_cons,List.mem_append] at hm ha
 rcases hm with hm|hm|hm|hm
 ·have:=ha (.inl hm);omega
 ·have:=ha (.inr (.inl hm));omega
 ·have:=ha (.inr (.inr (.inl hm)));omega
 ·exact h7 hm
theorem MaM.sysDo {S':Mst} (m:MTS W w c sy F S' w'):DoTo W w c mp RA rcap (mp::cb::(Xn ks++F)) (M.sys S',[]) (.returned (.slice none 0 0)) w':=by
 obtain ⟨F',m1,m2,m3⟩:=h.sysTo m
 exact ⟨_,_,rfl,EvsAt.nil ..,m1.mas,m2,m3⟩
theorem MaM.stayDo (hc:Chg [] w w'):DoTo W w c mp RA rcap (mp::cb::(Xn ks++F)) (M,[]) (.returned (.slice none 0 0)) w':=
 ⟨_,_,rfl,EvsAt.nil ..,(h.keep0 hc).mas,hc.mono (by simp),fun b hb=>.inl hb⟩
end
end
section
section
variable {P:Program} {md:Region.Mode} {ops:Array Oper} {C:World→Prop}
def sinkU (md:Region.Mode) (ops:Array Oper) (n u:Nat):Bool:=
 (List.range n).all fun i=>decide (i=u)||(List.range (n+1)).any fun j=>decide (i<j)&&decide (j≠u)&&Region.waitsFor md ops j i
def lexTailU (md:Region.Mode) (ops:Array Oper) (n u:Nat):Bool:=
 Region.noSelect ops&&decide (ops.size=n+1)&&decide (u<n)&&sinkU md ops n u&&Region.lexHead md ops (ops.size-n) n 0 (Array.replicate ops.size false)
theorem waitsU {n u:Nat} {ls:Array Bool} (hn:n<ops.size) (hs:sinkU md ops n u=true) (inv:HeadInv md ops n ls):
 ∀(d i:Nat),n-i=d→i<n→i≠u→ls.getD i true=false→n∉Region.ready md ops ls:=by
 intro d
 induction d using Nat.strongRecOn with
 |_ d ih=>
  intro i hd hi hiu hun hr
  obtain ⟨_,ot,hot,hall⟩:=mem_ready.1 hr
  have h1:=List.all_eq_true.1 hs i (List.mem_range.2 hi)
  simp only [Bool.or_eq_true,decide_eq_true_eq,hiu,false_or] at h1
  obtain ⟨j,hj,h2⟩:=List.any_eq_true.1 h1
  simp only [Bool.and_eq_true,decide_eq_true_eq] at h2
  obtain ⟨⟨hij,hju⟩,hwf⟩:=h2
  have hjn:j≤n:=by have:=List.mem_range.1 hj;omega
  obtain ⟨oj,hoj,e,he,hb,hon⟩:=Region.waitsFor_spec hwf
  by_cases hjt:j=n
  ·subst hjt
   have:oj=ot:=Option.some.inj (hoj.symm.trans hot)
   subst this
   have h2:=hall e he hb
   rw [hon,getD_both hun] at h2
   cases h2
  ·cases hl:ls.getD j false with
   |true=>
    have h2:=inv.closed j oj hoj hl e he hb
    rw [hon,getD_both hun] at h2
    cases h2
   |false=>
    have hjs:j<ls.size:=by rw [inv.size];omega
    exact ih (n-j) (by omega) j rfl (by omega) hju (getD_in hjs hl) hr
def waysU (P:Program) (md:Region.Mode) (ops:Array Oper) (C:World→Prop) (n u:Nat) (L:Array Bool→Act→Prop):Nat→Array Bool→Act→Prop
 |0,ls,a=>L ls a
 |f+1,ls,a=>Region.ready md ops ls≠[]∧(∀i∈Region.ready md ops ls,i<n→qOp P ops C i (waysU P md ops C n u L f (ls.setIfInBounds i true)) a)∧
  ((∀i∈Region.ready md ops ls,i<n)∨(f=0∧u∈Region.ready md ops ls∧∃ou v,ops[u]? =some ou∧Yields P ops ou v a∧
   (∀j oj,ops[j]? =some oj→j≠u→ls.getD j true=false→(∀e∈oj.after,Region.binds md e=true→e.on≠u)→ou.apart ops oj=true)∧L (ls.setIfInBounds u true) (a.put ou.dst v)))
theorem waysU.any {n u g:Nat} {L:Array Bool→Act→Prop} {Q':Exit→Act→World→Prop} (hsel:∀(j:Nat) (o:Oper) cs b,ops[j]? =some o→o.op≠.select cs b)
 (hQ:∀d v c a w,Q' (.panic c) (Act.put a d v) w→Q' (.panic c) a w) (hL:∀ls a w,C w→L ls a→wpAny P md ops Q' g ls a w):
 ∀(f:Nat) (ls:Array Bool) (a:Act) (w:World),C w→waysU P md ops C n u L f ls a→wpAny P md ops Q' (f+g) ls a w:=by
 intro f
 induction f with
 |zero=>
  intro ls a w hw h
  rw [Nat.zero_add]
  exact hL ls a w hw h
 |succ f ih=>
  intro ls a w hw h
  obtain ⟨h1,h2,h3⟩:=h
  rcases h3 with h3|⟨rfl,hu,ou,v,hou,hy,hfree,hl⟩
  ·rw [Nat.add_right_comm]
   exact ⟨fun e=>(h1 e).elim,fun i hi=>wpOp_of_qOp hw (fun a' w' hw' h'=>ih _ a' w' hw' h') (h2 i hi (h3 i hi))⟩
  ·rw [Nat.zero_add,Nat.add_comm]
   exact wpAny_first hou hsel (fun c a w=>hQ ou.dst v c a w) g ls a w hfree hu hy (hL _ _ w hw hl)
theorem waysU.first {n u i:Nat} {oi:Oper} {v:Value} {L:Array Bool→Act→Prop} (hi:ops[i]? =some oi) (hsel:∀(j:Nat) (o:Oper) cs b,ops[j]? =some o→o.op≠.select cs b)
 (hs:sinkU md ops n u=true) (hsz:ops.size=n+1) (hin:i<n) (hend:∀ls a,L ls a→∀j∈Region.ready md ops ls,n≤j) (hyu:i=u→∀a,YieldsIn P ops C oi v a→Yields P ops oi v a):
 ∀(f:Nat) (ls:Array Bool) (a:Act),HeadInv md ops n ls→(∀j oj,ops[j]? =some oj→j≠i→ls.getD j true=false→(∀e∈oj.after,Region.binds md e=true→e.on≠i)→oi.apart ops oj=true)→
  i∈Region.ready md ops ls→YieldsIn P ops C oi v a→waysU P md ops C n u L f (ls.setIfInBounds i true) (a.put oi.dst v)→waysU P md ops C n u L (f+1) ls a:=by
 have hlt:∀{ls:Array Bool} {j:Nat},j∈Region.ready md ops ls→j≠n→j<n:=fun hj hne=>by
  obtain ⟨_,oj,hoj,_⟩:=mem_ready.1 hj
  have:=(Array.getElem?_eq_some_iff.1 hoj).1
  omega
 intro f
 induction f with
 |zero=>
  intro ls a inv hfree hr hy H
  refine ⟨fun e=>(by rw [e] at hr;cases hr),fun j hj hjn=>?_,?_⟩
  ·by_cases hji:j=i
   ·rw [hji];exact hy.qOp hi H
   ·exact absurd hjn (Nat.not_lt_of_le (hend _ _ H j (ready_mono hj hji)))
  ·by_cases hiu:i=u
   ·subst hiu
    exact .inr ⟨rfl,hr,oi,v,hi,hyu rfl a hy,hfree,H⟩
   ·exact .inl fun j hj=>hlt hj fun e=>waitsU (by omega) hs inv _ i rfl hin hiu (mem_ready.1 hr).1 (e▸hj)
 |succ f ih=>
  intro ls a inv hfree hr hy H
  refine ⟨fun e=>(by rw [e] at hr;cases hr),fun j hj hjn=>?_,.inl fun j hj=>hlt hj fun e=>?_⟩
  ·by_cases hji:j=i
   ·rw [hji];exact hy.qOp hi H
   ·obtain ⟨hju,oj,hoj,hall⟩:=mem_ready.1 hj
    have hno:∀e∈oj.after,Region.binds md e=true→e.on≠i:=by
     intro e he hb heq
     have h1:=hall e he hb
     rw [heq,getD_both (mem_ready.1 hr).1] at h1
     cases h1
    refine qOp_mono (fun a' h3=>ih _ a' (inv.set hj hjn) ?_ (ready_mono hr (Ne.symm hji)) h3.1 ?_) (qOp_put hoj (hfree j oj hoj hji hju hno) (fun cs b=>hsel i oi cs b hi) (fun cs b=>hsel j oj cs b hoj) hy (H.2.1 j (ready_mono hj hji) hjn))
    ·intro k ok hk hki hu hno2
     refine hfree k ok hk hki ?_ hno2
     by_cases hjk:j=k
     ·rw [←hjk];exact hju
     ·rwa [getD_set_ne true hjk] at hu
    ·rw [Array.setIfInBounds_comm _ _ hji]
     exact h3.2
  ·subst e
   by_cases hiu:i=u
   ·have hj':=ready_mono hj (show j≠i by omega)
    rcases H.2.2 with h3|⟨_,hu,_⟩
    ·exact absurd (h3 j hj') (Nat.lt_irrefl _)
    ·rw [←hiu] at hu
     have h4:=(mem_ready.1 hu).1
     have his:i<ls.size:=by rw [inv.size];omega
     simp [Array.getD,his] at h4
   ·exact waitsU (by omega) hs inv _ i rfl hin hiu (mem_ready.1 hr).1 hj
theorem waysU.lex {n u g:Nat} {Lq:Act→Prop} (hsel:Region.noSelect ops=true) (hs:sinkU md ops n u=true) (hsz:ops.size=n+1) (hyu:∀ou v a,ops[u]? =some ou→YieldsIn P ops C ou v a→Yields P ops ou v a):
 ∀(l:List Oper) (k:Nat) (ls:Array Bool) (a:Act),(∀j,j<l.length→l[j]? =ops[k+j]?)→k+l.length=n→HeadInv md ops n ls→Region.lexHead md ops g l.length k ls=true→wpQuiet P ops C Lq l a→
  waysU P md ops C n u (fun ls' a'=>Region.seqB md ops g n ls'=true∧Lq a') l.length ls a:=by
 intro l
 induction l with
 |nil=>
  intro k ls a _ hk _ hB h
  have e:k=n:=by simpa using hk
  rw [e] at hB
  exact ⟨by simpa [Region.lexHead] using hB,h⟩
 |cons o l ih=>
  intro k ls a hl hk inv hB h
  have h0:ops[k]? =some o:=by simpa using (hl 0 (by simp)).symm
  rw [List.length_cons] at hk hB
  simp only [Region.lexHead,Bool.and_eq_true] at hB
  have hkn:k<n:=by omega
  have hr:k∈Region.ready md ops ls:=by simpa using hB.1.1
  have hq:qOp P ops C k (wpQuiet P ops C Lq l) a:=by unfold qOp;simp only [h0];exact h
  obtain ⟨v,hy,hK⟩:=yieldsIn_of_qOp h0 hq
  exact waysU.first h0 (Region.noSelect_spec hsel) hs hsz hkn (fun ls' a' hL=>seqB_ready hL.1) (fun e a' hy'=>hyu o v a' (e▸h0) hy') l.length ls a inv (Region.free_spec h0 hB.1.2) hr hy
   (ih (k+1) _ _ (fun j hj=>by have:=hl (j+1) (by simp;omega);simpa [Nat.add_assoc,Nat.add_comm 1 j] using this) (by omega) (inv.set hr hkn) hB.2 hK)
theorem XL {id:Nat} {Q:Exit→Act→World→Prop} {a:Act} {w:World} {l:List Oper} (N n u:Nat) (hm:P.follows .mixedOrders=true) (hB:lexTailU .any l.toArray n u=true)
 (hyu:∀ou v a,l[u]? =some ou→YieldsIn P l.toArray (fun w'=>∃x:Aft N w,w'=x.w) ou v a→Yields P l.toArray ou v a) (hQ:∀d v c a w,Q (.panic c) (Act.put a d v) w→Q (.panic c) a w)
 (h:wpQuiet P l.toArray (fun w'=>∃x:Aft N w,w'=x.w) (fun a'=>∀w',(∃x:Aft N w,w'=x.w)→wpList P l.toArray Q (l.drop n) a' w') (l.take n) a):(Code.region id l.toArray true).wp P Q a w:=by
 simp only [lexTailU,Bool.and_eq_true,decide_eq_true_eq] at hB
 obtain ⟨⟨⟨⟨hsel,hsz⟩,hun⟩,hs⟩,hlex⟩:=hB
 have hn':l.length=n+1:=by simpa using hsz
 have ht:(l.take n).length=n:=by rw [List.length_take];omega
 have hd:(l.drop n).length=l.toArray.size-n:=by simp
 have inv0:HeadInv .any l.toArray n (Array.replicate l.toArray.size false):=
  ⟨by simp,fun j oj _ e=>(by rw [getD_replicate_false] at e;cases e),fun t _ e=>getD_in (by simpa using e) (getD_replicate_false _ _)⟩
 have H:=waysU.lex (md:=.any) (u:=u) (g:=l.toArray.size-n) hsel hs hsz (fun ou v a ho hy=>hyu ou v a (by simpa using ho) hy) (l.take n) 0 _ a (fun j hj=>by
  rw [ht] at hj
  simp [hj]) (by omega) inv0 (by rw [ht];exact hlex) h
 refine wp_region_any hm ?_
 have hW:∃x:Aft N w,({w with drawn:=w.drawn+1}:World)=x.w:=⟨⟨_,(Below.refl _ _).drew⟩,rfl⟩
 have:=waysU.any (Q':=Q) (g:=l.toArray.size-n) (Region.noSelect_spec hsel) hQ (fun ls a' w' hw' hL=>by
  have:=wpAny_of_seq (md:=.any) (Q':=Q) (l.drop n) n ls a' w' (fun j=>by simp [List.getElem?_drop]) (by rw [hd];exact hL.1) (hL.2 w' hw')
  rwa [hd] at this) _ _ _ _ hW H
 rw [ht,show n+(l.toArray.size-n)=l.toArray.size by omega] at this
 exact this
end
section
variable {P:Program} {ops:Array Oper} {C:World→Prop}
theorem Jp {o:Oper} {x:Operand} {ix:Nat} (ho:o.op=.extract x ix) {w0:World} (hw0:C w0) {v:Value} {a:Act} (h:YieldsIn P ops C o v a):Yields P ops o v a:=by
 rcases h with ⟨h1,h2⟩|h
 ·refine .inl ⟨h1,fun w=>?_⟩
  have h3:=h2 w0 hw0
  unfold Oper.quietAt execOp at h3
  unfold execOp
  rw [ho] at h3 ⊢
  simp only at h3 ⊢
  unfold Instr.extract at h3 ⊢
  generalize a.eval x=y at *
  cases y
  case tuple vs=>
   cases hv:vs[ix]? with
   |some z=>
    simp only [hv] at h3 ⊢
    have h4:z=v:=by simpa [Oper.quietUpon] using h3
    simp [h4]
   |none=>
    simp only [hv] at h3
    simp [Oper.quietUpon,stuck] at h3
  all_goals simp [Oper.quietUpon,stuck] at h3
 ·exact .inr h
end
end
section
set_option maxRecDepth 100000
attribute [local go_sem ↓] Qv QF Qy QO QE Qs Qk Qh heap_alloc Ql heap_setCell Qc Yq Xu Xg ZP YD XA YC Xz Yi Yh Yd Ye Yf Xh XW XV XU Xj YK YL YJ YG YH YX YT XE YV YW YU YS
attribute [local go_sem] Qb Qa Qd Qi Qe Qg Qf QB Qw QN QL QM Q5 QK QA Qr QD QW QJ Qq QC Qp Qj Qo Qn Yc Xf YB Q8 Xv Xw JT Yg ZZ ZY ZX ZW Yn Ym Yj Yk Yl QG ZQ Xi ZR XT Zc XB YI XC Qad Xa Z9 Z8 Z7 Z6 YP YQ YO YM YN Z3 QY QZ QX QP Qt Zk
attribute [local simp ↓] Qk Qh heap_alloc Ql heap_setCell Qc
attribute [local simp] Qb Qa Qd Qi Qe Qg Qf Qr Qj Qo Qn Q8 QG Zc QY QZ QX QP Qt QD
attribute [local go_sem ↓] Qh
section
variable {W w:World} {c:Cg} {sy n:Nat} {F:List Nat} {S:Mst} {cur:Nat→List Int} {kb pb qb:Nat} {Q:Co} (h:CS W w c sy F S kb pb qb Q) (hI:Inv c n S cur) (hN:NN cur) (hn:n+1≤1000000000) (hR:Roomy c S) (hR2:∀li wo,Roomy c (loadM c S Q.id li wo).1) (hT:Tab W) {u:Int} {r:Bool} (hru:Q.ru=true) (hx:Q.pr[Q.pc]? =some (u,r))
include h hI hN hn hR hR2 hT hru hx
theorem xexec_2 (hd:decB u=true) (hk:(Qz u).op=2):Calls Tryz.prog 87 #[.pointer (some ⟨kb,0,none⟩),.pointer (some ⟨sy,0,none⟩)] w (CSTo W w c sy F kb pb qb S (Yo (setR (QI Q u) (Qz u).a (doV (Qz u).op (regA (QI Q u) (Qz u).b) (regA (QI Q u) (Qz u).c)))) []):=by
 have _:=hI
 have _:=hN
 have _:=hn
 have _:=hR
 have _:=hR2
 have _:=hT
 have hg:YF (Qz u)=true:=by unfold decB at hd;rw [Bool.and_eq_true] at hd;exact hd.1
 obtain ⟨_,ga,gb,gc,gm⟩:=Zw hg
 have hpl:=(Vg hx).1
 have hpn:=h.co.ok.np
 have hp:(QI Q u).pc<2147483648:=by show Q.pc<_;omega
 have DH:=Qbf h.co hx
 rw [hd,show decI u=Qz u by unfold decI;rw [hd];rfl] at DH
 have HD:=Vh DH
 have RU:=Qao h.co.own
 rw [hru] at RU
 have HRU:=Vh RU
 have HP:=Vh hp
 have H1:=Vh (fun (w1:World) (hc:Chg [pb] w w1) (hC:Cor w1 kb pb qb (QI Q u))=>h.core (hc.mono (by simp)) hC)
 have EN:=Vh (fun (w':World) (Q':Co) (h':CS W w' c sy F S kb pb qb Q') (hp:Q'.pc<2147483648)=>(Qaf h'.co h'.old hp).mono fun e w' hd=>h'.ofCo hd)
 obtain ⟨na,hna⟩:∃n:Nat,(Qz u).a=(n:Int):=⟨(Qz u).a.toNat,by omega⟩
 have la:na<8:=by omega
 have la':(na:Int)<8:=by omega
 obtain ⟨nb,hnb⟩:∃n:Nat,(Qz u).b=(n:Int):=⟨(Qz u).b.toNat,by omega⟩
 have lb:nb<8:=by omega
 have lb':(nb:Int)<8:=by omega
 obtain ⟨nc,hnc⟩:∃n:Nat,(Qz u).c=(n:Int):=⟨(Qz u).c.toNat,by omega⟩
 have lc:nc<8:=by omega
 have lc':(nc:Int)<8:=by omega
 have eb:regA (QI Q u) (Qz u).b=regN (QI Q u).rg nb:=by unfold regA;rw [hnb,Int.toNat_natCast]
 have ec:regA (QI Q u) (Qz u).c=regN (QI Q u).rg nc:=by unfold regA;rw [hnc,Int.toNat_natCast]
 have p1:=h.co.ok.pos.read u |>.reg (Qz u).b
 have p2:=h.co.ok.pos.read u |>.reg (Qz u).c
 rw [eb] at p1
 rw [ec] at p2
 have HV:=Vh (Qev 2 (b:=regN (QI Q u).rg nb) (c:=regN (QI Q u).rg nc) p1)
 have GD:=Vh (fun (w':World)=>Qgd 2 (regN (QI Q u).rg nb) (regN (QI Q u).rg nc) p2 w' |>.mono fun _ _ h=>(⟨h.1,h.2▸Chg.mapW _ _⟩:_∧Chg [] w' _))
 rw [eb,ec,hk,hna]
 clear eb ec p1 p2
 have h8:(QI Q u).rg.length=8:=h.co.ok.h8
 clear h hI hN hn hR hR2 hT hru hx hd DH RU ga gb gc gm hg hpl hpn hp
 generalize Qz u=i at *
 generalize QI Q u=Q1 at *
 go_enter Tryz.func87,Tryz.ntmps87
 try dsimp only [List.append]
 go_wp2_with (first |(go_at_call 72;refine HRU.out.mono ?_;rintro e w' ⟨rfl,rfl⟩)|(go_at_call 109;refine HD.out.mono ?_;rintro e w1 ⟨rfl,hC1,hc1⟩;have hb1:=hC1.own;have H1:=Vh (H1.out w1 hc1 hC1);have C1:=Vh hc1;clear hC1 hc1))
 have hx2:(w1.alloc (.cells (insc i) 68)).heap[w1.heap.size]? =some (.cells (insc i) 68 (0,0)):=by simp
 have C2:=Vh (show Chg [] w1 (w1.alloc (.cells (insc i) 68)) from (Chg.refl [] w1).alloc _)
 have hb2:=C2.out.keep hb1 (by simp)
 have H2:=Vh (H1.out.keep0 C2.out)
 have HPK:=Vh (show w1.heap.size≠kb∧w1.heap.size∉F from ⟨by have:=H1.out.co.oldk.lt;omega,fun hm=>by have:=H1.out.old _ hm;omega⟩)
 have G2:=Vh (show Chg (kb::pb::qb::F) w (w1.alloc (.cells (insc i) 68)) from ZS ((C1.out.mono (by simp)).trans (C2.out.mono (by simp))))
 clear hb1 H1 C1 C2 HD HRU
 generalize w1.alloc (.cells (insc i) 68)=w2 at *
 generalize w1.heap.size=p at *
 have o2:=old hb2
 have ox2:=old hx2
 have n1:¬p=kb:=HPK.out.1
 have n2:¬kb=p:=fun e=>HPK.out.1 e.symm
 have R1:∀y:Aft w2.heap.size w2,y.w.heap[p]? =some (.cells (insc i) 68 (0,0)):=fun y=>(y.block ox2.lt).trans hx2
 have R2:∀y:Aft w2.heap.size w2,y.w.heap[kb]? =some (.cells (coc Q1.id Q1.ru Q1.rg pb Q1.pr.length Q1.pc qb Q1.wt) 136 (0,0)):=fun y=>(y.block o2.lt).trans hb2
 refine XL w2.heap.size 26 22 (by kernel_rfl) (by kernel_rfl) (fun ou v a ho hy=>by
  obtain rfl:=Option.some.inj ho
  exact Jp rfl ⟨⟨w2,Below.refl _ _⟩,rfl⟩ hy) (fun d v c a w h=>by cases d<;>exact h) ?_
 simp only [List.take_succ_cons,List.take_zero,List.drop_succ_cons,List.drop_zero]
 repeat (go_big_quiet_step (first |(go_at_call 111;exact Jq (Nat.le_refl _) (GD.out _))))
 refine wpQuiet_nil ?_
 rintro _ ⟨y,rfl⟩
 have CY:=Vh (Below.chg y.below (Nat.le_refl _))
 have H3:=Vh (H2.out.keep0 CY.out)
 have r1:=R1 y
 have r2:=R2 y
 generalize y.w=w3 at *
 go_wp2_with fail
 refine (EN.out _ _ (H3.out.setReg la HV.out) HP.out).mono ?_
 rintro e w4 ⟨v,F',rfl,hd⟩
 go_wp2_with fail
 go_ret
 exact CSTo.from ((G2.out.trans (CY.out.mono (by simp))).trans (ZS ((Chg.refl [kb,pb,qb] w3).setCell kb _ _ (.inl (by simp))))) (fun k hk=>.inl hk) ⟨v,F',rfl,hd⟩
theorem xexec_3 (hd:decB u=true) (hk:(Qz u).op=3):Calls Tryz.prog 87 #[.pointer (some ⟨kb,0,none⟩),.pointer (some ⟨sy,0,none⟩)] w (CSTo W w c sy F kb pb qb S (Yo (setR (QI Q u) (Qz u).a (doV (Qz u).op (regA (QI Q u) (Qz u).b) (regA (QI Q u) (Qz u).c)))) []):=by
 have _:=hI
 have _:=hN
 have _:=hn
 have _:=hR
 have _:=hR2
 have _:=hT
 have hg:YF (Qz u)=true:=by unfold decB at hd;rw [Bool.and_eq_true] at hd;exact hd.1
 obtain ⟨_,ga,gb,gc,gm⟩:=Zw hg
 have hpl:=(Vg hx).1
 have hpn:=h.co.ok.np
 have hp:(QI Q u).pc<2147483648:=by show Q.pc<_;omega
 have DH:=Qbf h.co hx
 rw [hd,show decI u=Qz u by unfold decI;rw [hd];rfl] at DH
 have HD:=Vh DH
 have RU:=Qao h.co.own
 rw [hru] at RU
 have HRU:=Vh RU
 have HP:=Vh hp
 have H1:=Vh (fun (w1:World) (hc:Chg [pb] w w1) (hC:Cor w1 kb pb qb (QI Q u))=>h.core (hc.mono (by simp)) hC)
 have EN:=Vh (fun (w':World) (Q':Co) (h':CS W w' c sy F S kb pb qb Q') (hp:Q'.pc<2147483648)=>(Qaf h'.co h'.old hp).mono fun e w' hd=>h'.ofCo hd)
 obtain ⟨na,hna⟩:∃n:Nat,(Qz u).a=(n:Int):=⟨(Qz u).a.toNat,by omega⟩
 have la:na<8:=by omega
 have la':(na:Int)<8:=by omega
 obtain ⟨nb,hnb⟩:∃n:Nat,(Qz u).b=(n:Int):=⟨(Qz u).b.toNat,by omega⟩
 have lb:nb<8:=by omega
 have lb':(nb:Int)<8:=by omega
 obtain ⟨nc,hnc⟩:∃n:Nat,(Qz u).c=(n:Int):=⟨(Qz u).c.toNat,by omega⟩
 have lc:nc<8:=by omega
 have lc':(nc:Int)<8:=by omega
 have eb:regA (QI Q u) (Qz u).b=regN (QI Q u).rg nb:=by unfold regA;rw [hnb,Int.toNat_natCast]
 have ec:regA (QI Q u) (Qz u).c=regN (QI Q u).rg nc:=by unfold regA;rw [hnc,Int.toNat_natCast]
 have p1:=h.co.ok.pos.read u |>.reg (Qz u).b
 have p2:=h.co.ok.pos.read u |>.reg (Qz u).c
 rw [eb] at p1
 rw [ec] at p2
 have HV:=Vh (Qev 3 (b:=regN (QI Q u).rg nb) (c:=regN (QI Q u).rg nc) p1)
 have GD:=Vh (fun (w':World)=>Qgd 3 (regN (QI Q u).rg nb) (regN (QI Q u).rg nc) p2 w' |>.mono fun _ _ h=>(⟨h.1,h.2▸Chg.mapW _ _⟩:_∧Chg [] w' _))
 rw [eb,ec,hk,hna]
 clear eb ec p1 p2
 have h8:(QI Q u).rg.length=8:=h.co.ok.h8
 clear h hI hN hn hR hR2 hT hru hx hd DH RU ga gb gc gm hg hpl hpn hp
 generalize Qz u=i at *
 generalize QI Q u=Q1 at *
 go_enter Tryz.func87,Tryz.ntmps87
 try dsimp only [List.append]
 go_wp2_with (first |(go_at_call 72;refine HRU.out.mono ?_;rintro e w' ⟨rfl,rfl⟩)|(go_at_call 109;refine HD.out.mono ?_;rintro e w1 ⟨rfl,hC1,hc1⟩;have hb1:=hC1.own;have H1:=Vh (H1.out w1 hc1 hC1);have C1:=Vh hc1;clear hC1 hc1))
 have hx2:(w1.alloc (.cells (insc i) 68)).heap[w1.heap.size]? =some (.cells (insc i) 68 (0,0)):=by simp
 have C2:=Vh (show Chg [] w1 (w1.alloc (.cells (insc i) 68)) from (Chg.refl [] w1).alloc _)
 have hb2:=C2.out.keep hb1 (by simp)
 have H2:=Vh (H1.out.keep0 C2.out)
 have HPK:=Vh (show w1.heap.size≠kb∧w1.heap.size∉F from ⟨by have:=H1.out.co.oldk.lt;omega,fun hm=>by have:=H1.out.old _ hm;omega⟩)
 have G2:=Vh (show Chg (kb::pb::qb::F) w (w1.alloc (.cells (insc i) 68)) from ZS ((C1.out.mono (by simp)).trans (C2.out.mono (by simp))))
 clear hb1 H1 C1 C2 HD HRU
 generalize w1.alloc (.cells (insc i) 68)=w2 at *
 generalize w1.heap.size=p at *
 have o2:=old hb2
 have ox2:=old hx2
 have n1:¬p=kb:=HPK.out.1
 have n2:¬kb=p:=fun e=>HPK.out.1 e.symm
 have R1:∀y:Aft w2.heap.size w2,y.w.heap[p]? =some (.cells (insc i) 68 (0,0)):=fun y=>(y.block ox2.lt).trans hx2
 have R2:∀y:Aft w2.heap.size w2,y.w.heap[kb]? =some (.cells (coc Q1.id Q1.ru Q1.rg pb Q1.pr.length Q1.pc qb Q1.wt) 136 (0,0)):=fun y=>(y.block o2.lt).trans hb2
 refine XL w2.heap.size 26 22 (by kernel_rfl) (by kernel_rfl) (fun ou v a ho hy=>by
  obtain rfl:=Option.some.inj ho
  exact Jp rfl ⟨⟨w2,Below.refl _ _⟩,rfl⟩ hy) (fun d v c a w h=>by cases d<;>exact h) ?_
 simp only [List.take_succ_cons,List.take_zero,List.drop_succ_cons,List.drop_zero]
 repeat (go_big_quiet_step (first |(go_at_call 111;exact Jq (Nat.le_refl _) (GD.out _))))
 refine wpQuiet_nil ?_
 rintro _ ⟨y,rfl⟩
 have CY:=Vh (Below.chg y.below (Nat.le_refl _))
 have H3:=Vh (H2.out.keep0 CY.out)
 have r1:=R1 y
 have r2:=R2 y
 generalize y.w=w3 at *
 go_wp2_with fail
 refine (EN.out _ _ (H3.out.setReg la HV.out) HP.out).mono ?_
 rintro e w4 ⟨v,F',rfl,hd⟩
 go_wp2_with fail
 go_ret
 exact CSTo.from ((G2.out.trans (CY.out.mono (by simp))).trans (ZS ((Chg.refl [kb,pb,qb] w3).setCell kb _ _ (.inl (by simp))))) (fun k hk=>.inl hk) ⟨v,F',rfl,hd⟩
theorem xexec_4 (hd:decB u=true) (hk:(Qz u).op=4):Calls Tryz.prog 87 #[.pointer (some ⟨kb,0,none⟩),.pointer (some ⟨sy,0,none⟩)] w (CSTo W w c sy F kb pb qb S (Yo (setR (QI Q u) (Qz u).a (doV (Qz u).op (regA (QI Q u) (Qz u).b) (regA (QI Q u) (Qz u).c)))) []):=by
 have _:=hI
 have _:=hN
 have _:=hn
 have _:=hR
 have _:=hR2
 have _:=hT
 have hg:YF (Qz u)=true:=by unfold decB at hd;rw [Bool.and_eq_true] at hd;exact hd.1
 obtain ⟨_,ga,gb,gc,gm⟩:=Zw hg
 have hpl:=(Vg hx).1
 have hpn:=h.co.ok.np
 have hp:(QI Q u).pc<2147483648:=by show Q.pc<_;omega
 have DH:=Qbf h.co hx
 rw [hd,show decI u=Qz u by unfold decI;rw [hd];rfl] at DH
 have HD:=Vh DH
 have RU:=Qao h.co.own
 rw [hru] at RU
 have HRU:=Vh RU
 have HP:=Vh hp
 have H1:=Vh (fun (w1:World) (hc:Chg [pb] w w1) (hC:Cor w1 kb pb qb (QI Q u))=>h.core (hc.mono (by simp)) hC)
 have EN:=Vh (fun (w':World) (Q':Co) (h':CS W w' c sy F S kb pb qb Q') (hp:Q'.pc<2147483648)=>(Qaf h'.co h'.old hp).mono fun e w' hd=>h'.ofCo hd)
 obtain ⟨na,hna⟩:∃n:Nat,(Qz u).a=(n:Int):=⟨(Qz u).a.toNat,by omega⟩
 have la:na<8:=by omega
 have la':(na:Int)<8:=by omega
 obtain ⟨nb,hnb⟩:∃n:Nat,(Qz u).b=(n:Int):=⟨(Qz u).b.toNat,by omega⟩
 have lb:nb<8:=by omega
 have lb':(nb:Int)<8:=by omega
 obtain ⟨nc,hnc⟩:∃n:Nat,(Qz u).c=(n:Int):=⟨(Qz u).c.toNat,by omega⟩
 have lc:nc<8:=by omega
 have lc':(nc:Int)<8:=by omega
 have eb:regA (QI Q u) (Qz u).b=regN (QI Q u).rg nb:=by unfold regA;rw [hnb,Int.toNat_natCast]
 have ec:regA (QI Q u) (Qz u).c=regN (QI Q u).rg nc:=by unfold regA;rw [hnc,Int.toNat_natCast]
 have p1:=h.co.ok.pos.read u |>.reg (Qz u).b
 have p2:=h.co.ok.pos.read u |>.reg (Qz u).c
 rw [eb] at p1
 rw [ec] at p2
 have HV:=Vh (Qev 4 (b:=regN (QI Q u).rg nb) (c:=regN (QI Q u).rg nc) p1)
 have GD:=Vh (fun (w':World)=>Qgd 4 (regN (QI Q u).rg nb) (regN (QI Q u).rg nc) p2 w' |>.mono fun _ _ h=>(⟨h.1,h.2▸Chg.mapW _ _⟩:_∧Chg [] w' _))
 rw [eb,ec,hk,hna]
 clear eb ec p1 p2
 have h8:(QI Q u).rg.length=8:=h.co.ok.h8
 clear h hI hN hn hR hR2 hT hru hx hd DH RU ga gb gc gm hg hpl hpn hp
 generalize Qz u=i at *
 generalize QI Q u=Q1 at *
 go_enter Tryz.func87,Tryz.ntmps87
 try dsimp only [List.append]
 go_wp2_with (first |(go_at_call 72;refine HRU.out.mono ?_;rintro e w' ⟨rfl,rfl⟩)|(go_at_call 109;refine HD.out.mono ?_;rintro e w1 ⟨rfl,hC1,hc1⟩;have hb1:=hC1.own;have H1:=Vh (H1.out w1 hc1 hC1);have C1:=Vh hc1;clear hC1 hc1))
 have hx2:(w1.alloc (.cells (insc i) 68)).heap[w1.heap.size]? =some (.cells (insc i) 68 (0,0)):=by simp
 have C2:=Vh (show Chg [] w1 (w1.alloc (.cells (insc i) 68)) from (Chg.refl [] w1).alloc _)
 have hb2:=C2.out.keep hb1 (by simp)
 have H2:=Vh (H1.out.keep0 C2.out)
 have HPK:=Vh (show w1.heap.size≠kb∧w1.heap.size∉F from ⟨by have:=H1.out.co.oldk.lt;omega,fun hm=>by have:=H1.out.old _ hm;omega⟩)
 have G2:=Vh (show Chg (kb::pb::qb::F) w (w1.alloc (.cells (insc i) 68)) from ZS ((C1.out.mono (by simp)).trans (C2.out.mono (by simp))))
 clear hb1 H1 C1 C2 HD HRU
 generalize w1.alloc (.cells (insc i) 68)=w2 at *
 generalize w1.heap.size=p at *
 have o2:=old hb2
 have ox2:=old hx2
 have n1:¬p=kb:=HPK.out.1
 have n2:¬kb=p:=fun e=>HPK.out.1 e.symm
 have R1:∀y:Aft w2.heap.size w2,y.w.heap[p]? =some (.cells (insc i) 68 (0,0)):=fun y=>(y.block ox2.lt).trans hx2
 have R2:∀y:Aft w2.heap.size w2,y.w.heap[kb]? =some (.cells (coc Q1.id Q1.ru Q1.rg pb Q1.pr.length Q1.pc qb Q1.wt) 136 (0,0)):=fun y=>(y.block o2.lt).trans hb2
 refine XL w2.heap.size 26 22 (by kernel_rfl) (by kernel_rfl) (fun ou v a ho hy=>by
  obtain rfl:=Option.some.inj ho
  exact Jp rfl ⟨⟨w2,Below.refl _ _⟩,rfl⟩ hy) (fun d v c a w h=>by cases d<;>exact h) ?_
 simp only [List.take_succ_cons,List.take_zero,List.drop_succ_cons,List.drop_zero]
 repeat (go_big_quiet_step (first |(go_at_call 111;exact Jq (Nat.le_refl _) (GD.out _))))
 refine wpQuiet_nil ?_
 rintro _ ⟨y,rfl⟩
 have CY:=Vh (Below.chg y.below (Nat.le_refl _))
 have H3:=Vh (H2.out.keep0 CY.out)
 have r1:=R1 y
 have r2:=R2 y
 generalize y.w=w3 at *
 go_wp2_with fail
 refine (EN.out _ _ (H3.out.setReg la HV.out) HP.out).mono ?_
 rintro e w4 ⟨v,F',rfl,hd⟩
 go_wp2_with fail
 go_ret
 exact CSTo.from ((G2.out.trans (CY.out.mono (by simp))).trans (ZS ((Chg.refl [kb,pb,qb] w3).setCell kb _ _ (.inl (by simp))))) (fun k hk=>.inl hk) ⟨v,F',rfl,hd⟩
theorem xexec_5 (hd:decB u=true) (hk:(Qz u).op=5):Calls Tryz.prog 87 #[.pointer (some ⟨kb,0,none⟩),.pointer (some ⟨sy,0,none⟩)] w (CSTo W w c sy F kb pb qb S (Yo (setR (QI Q u) (Qz u).a (doV (Qz u).op (regA (QI Q u) (Qz u).b) (regA (QI Q u) (Qz u).c)))) []):=by
 have _:=hI
 have _:=hN
 have _:=hn
 have _:=hR
 have _:=hR2
 have _:=hT
 have hg:YF (Qz u)=true:=by unfold decB at hd;rw [Bool.and_eq_true] at hd;exact hd.1
 obtain ⟨_,ga,gb,gc,gm⟩:=Zw hg
 have hpl:=(Vg hx).1
 have hpn:=h.co.ok.np
 have hp:(QI Q u).pc<2147483648:=by show Q.pc<_;omega
 have DH:=Qbf h.co hx
 rw [hd,show decI u=Qz u by unfold decI;rw [hd];rfl] at DH
 have HD:=Vh DH
 have RU:=Qao h.co.own
 rw [hru] at RU
 have HRU:=Vh RU
 have HP:=Vh hp
 have H1:=Vh (fun (w1:World) (hc:Chg [pb] w w1) (hC:Cor w1 kb pb qb (QI Q u))=>h.core (hc.mono (by simp)) hC)
 have EN:=Vh (fun (w':World) (Q':Co) (h':CS W w' c sy F S kb pb qb Q') (hp:Q'.pc<2147483648)=>(Qaf h'.co h'.old hp).mono fun e w' hd=>h'.ofCo hd)
 obtain ⟨na,hna⟩:∃n:Nat,(Qz u).a=(n:Int):=⟨(Qz u).a.toNat,by omega⟩
 have la:na<8:=by omega
 have la':(na:Int)<8:=by omega
 obtain ⟨nb,hnb⟩:∃n:Nat,(Qz u).b=(n:Int):=⟨(Qz u).b.toNat,by omega⟩
 have lb:nb<8:=by omega
 have lb':(nb:Int)<8:=by omega
 obtain ⟨nc,hnc⟩:∃n:Nat,(Qz u).c=(n:Int):=⟨(Qz u).c.toNat,by omega⟩
 have lc:nc<8:=by omega
 have lc':(nc:Int)<8:=by omega
 have eb:regA (QI Q u) (Qz u).b=regN (QI Q u).rg nb:=by unfold regA;rw [hnb,Int.toNat_natCast]
 have ec:regA (QI Q u) (Qz u).c=regN (QI Q u).rg nc:=by unfold regA;rw [hnc,Int.toNat_natCast]
 have p1:=h.co.ok.pos.read u |>.reg (Qz u).b
 have p2:=h.co.ok.pos.read u |>.reg (Qz u).c
 rw [eb] at p1
 rw [ec] at p2
 have HV:=Vh (Qev 5 (b:=regN (QI Q u).rg nb) (c:=regN (QI Q u).rg nc) p1)
 have GD:=Vh (fun (w':World)=>Qgd 5 (regN (QI Q u).rg nb) (regN (QI Q u).rg nc) p2 w' |>.mono fun _ _ h=>(⟨h.1,h.2▸Chg.mapW _ _⟩:_∧Chg [] w' _))
 rw [eb,ec,hk,hna]
 clear eb ec p1 p2
 have h8:(QI Q u).rg.length=8:=h.co.ok.h8
 clear h hI hN hn hR hR2 hT hru hx hd DH RU ga gb gc gm hg hpl hpn hp
 generalize Qz u=i at *
 generalize QI Q u=Q1 at *
 go_enter Tryz.func87,Tryz.ntmps87
 try dsimp only [List.append]
 go_wp2_with (first |(go_at_call 72;refine HRU.out.mono ?_;rintro e w' ⟨rfl,rfl⟩)|(go_at_call 109;refine HD.out.mono ?_;rintro e w1 ⟨rfl,hC1,hc1⟩;have hb1:=hC1.own;have H1:=Vh (H1.out w1 hc1 hC1);have C1:=Vh hc1;clear hC1 hc1))
 have hx2:(w1.alloc (.cells (insc i) 68)).heap[w1.heap.size]? =some (.cells (insc i) 68 (0,0)):=by simp
 have C2:=Vh (show Chg [] w1 (w1.alloc (.cells (insc i) 68)) from (Chg.refl [] w1).alloc _)
 have hb2:=C2.out.keep hb1 (by simp)
 have H2:=Vh (H1.out.keep0 C2.out)
 have HPK:=Vh (show w1.heap.size≠kb∧w1.heap.size∉F from ⟨by have:=H1.out.co.oldk.lt;omega,fun hm=>by have:=H1.out.old _ hm;omega⟩)
 have G2:=Vh (show Chg (kb::pb::qb::F) w (w1.alloc (.cells (insc i) 68)) from ZS ((C1.out.mono (by simp)).trans (C2.out.mono (by simp))))
 clear hb1 H1 C1 C2 HD HRU
 generalize w1.alloc (.cells (insc i) 68)=w2 at *
 generalize w1.heap.size=p at *
 have o2:=old hb2
 have ox2:=old hx2
 have n1:¬p=kb:=HPK.out.1
 have n2:¬kb=p:=fun e=>HPK.out.1 e.symm
 have R1:∀y:Aft w2.heap.size w2,y.w.heap[p]? =some (.cells (insc i) 68 (0,0)):=fun y=>(y.block ox2.lt).trans hx2
 have R2:∀y:Aft w2.heap.size w2,y.w.heap[kb]? =some (.cells (coc Q1.id Q1.ru Q1.rg pb Q1.pr.length Q1.pc qb Q1.wt) 136 (0,0)):=fun y=>(y.block o2.lt).trans hb2
 refine XL w2.heap.size 26 22 (by kernel_rfl) (by kernel_rfl) (fun ou v a ho hy=>by
  obtain rfl:=Option.some.inj ho
  exact Jp rfl ⟨⟨w2,Below.refl _ _⟩,rfl⟩ hy) (fun d v c a w h=>by cases d<;>exact h) ?_
 simp only [List.take_succ_cons,List.take_zero,List.drop_succ_cons,List.drop_zero]
 repeat (go_big_quiet_step (first |(go_at_call 111;exact Jq (Nat.le_refl _) (GD.out _))))
 refine wpQuiet_nil ?_
 rintro _ ⟨y,rfl⟩
 have CY:=Vh (Below.chg y.below (Nat.le_refl _))
 have H3:=Vh (H2.out.keep0 CY.out)
 have r1:=R1 y
 have r2:=R2 y
 generalize y.w=w3 at *
 go_wp2_with fail
 refine (EN.out _ _ (H3.out.setReg la HV.out) HP.out).mono ?_
 rintro e w4 ⟨v,F',rfl,hd⟩
 go_wp2_with fail
 go_ret
 exact CSTo.from ((G2.out.trans (CY.out.mono (by simp))).trans (ZS ((Chg.refl [kb,pb,qb] w3).setCell kb _ _ (.inl (by simp))))) (fun k hk=>.inl hk) ⟨v,F',rfl,hd⟩
theorem xexec_6 (hd:decB u=true) (hk:(Qz u).op=6):Calls Tryz.prog 87 #[.pointer (some ⟨kb,0,none⟩),.pointer (some ⟨sy,0,none⟩)] w (CSTo W w c sy F kb pb qb S (Yo (setR (QI Q u) (Qz u).a (doV (Qz u).op (regA (QI Q u) (Qz u).b) (regA (QI Q u) (Qz u).c)))) []):=by
 have _:=hI
 have _:=hN
 have _:=hn
 have _:=hR
 have _:=hR2
 have _:=hT
 have hg:YF (Qz u)=true:=by unfold decB at hd;rw [Bool.and_eq_true] at hd;exact hd.1
 obtain ⟨_,ga,gb,gc,gm⟩:=Zw hg
 have hpl:=(Vg hx).1
 have hpn:=h.co.ok.np
 have hp:(QI Q u).pc<2147483648:=by show Q.pc<_;omega
 have DH:=Qbf h.co hx
 rw [hd,show decI u=Qz u by unfold decI;rw [hd];rfl] at DH
 have HD:=Vh DH
 have RU:=Qao h.co.own
 rw [hru] at RU
 have HRU:=Vh RU
 have HP:=Vh hp
 have H1:=Vh (fun (w1:World) (hc:Chg [pb] w w1) (hC:Cor w1 kb pb qb (QI Q u))=>h.core (hc.mono (by simp)) hC)
 have EN:=Vh (fun (w':World) (Q':Co) (h':CS W w' c sy F S kb pb qb Q') (hp:Q'.pc<2147483648)=>(Qaf h'.co h'.old hp).mono fun e w' hd=>h'.ofCo hd)
 obtain ⟨na,hna⟩:∃n:Nat,(Qz u).a=(n:Int):=⟨(Qz u).a.toNat,by omega⟩
 have la:na<8:=by omega
 have la':(na:Int)<8:=by omega
 obtain ⟨nb,hnb⟩:∃n:Nat,(Qz u).b=(n:Int):=⟨(Qz u).b.toNat,by omega⟩
 have lb:nb<8:=by omega
 have lb':(nb:Int)<8:=by omega
 obtain ⟨nc,hnc⟩:∃n:Nat,(Qz u).c=(n:Int):=⟨(Qz u).c.toNat,by omega⟩
 have lc:nc<8:=by omega
 have lc':(nc:Int)<8:=by omega
 have eb:regA (QI Q u) (Qz u).b=regN (QI Q u).rg nb:=by unfold regA;rw [hnb,Int.toNat_natCast]
 have ec:regA (QI Q u) (Qz u).c=regN (QI Q u).rg nc:=by unfold regA;rw [hnc,Int.toNat_natCast]
 have p1:=h.co.ok.pos.read u |>.reg (Qz u).b
 have p2:=h.co.ok.pos.read u |>.reg (Qz u).c
 rw [eb] at p1
 rw [ec] at p2
 have HV:=Vh (Qev 6 (b:=regN (QI Q u).rg nb) (c:=regN (QI Q u).rg nc) p1)
 have GD:=Vh (fun (w':World)=>Qgd 6 (regN (QI Q u).rg nb) (regN (QI Q u).rg nc) p2 w' |>.mono fun _ _ h=>(⟨h.1,h.2▸Chg.mapW _ _⟩:_∧Chg [] w' _))
 rw [eb,ec,hk,hna]
 clear eb ec p1 p2
 have h8:(QI Q u).rg.length=8:=h.co.ok.h8
 clear h hI hN hn hR hR2 hT hru hx hd DH RU ga gb gc gm hg hpl hpn hp
 generalize Qz u=i at *
 generalize QI Q u=Q1 at *
 go_enter Tryz.func87,Tryz.ntmps87
 try dsimp only [List.append]
 go_wp2_with (first |(go_at_call 72;refine HRU.out.mono ?_;rintro e w' ⟨rfl,rfl⟩)|(go_at_call 109;refine HD.out.mono ?_;rintro e w1 ⟨rfl,hC1,hc1⟩;have hb1:=hC1.own;have H1:=Vh (H1.out w1 hc1 hC1);have C1:=Vh hc1;clear hC1 hc1))
 have hx2:(w1.alloc (.cells (insc i) 68)).heap[w1.heap.size]? =some (.cells (insc i) 68 (0,0)):=by simp
 have C2:=Vh (show Chg [] w1 (w1.alloc (.cells (insc i) 68)) from (Chg.refl [] w1).alloc _)
 have hb2:=C2.out.keep hb1 (by simp)
 have H2:=Vh (H1.out.keep0 C2.out)
 have HPK:=Vh (show w1.heap.size≠kb∧w1.heap.size∉F from ⟨by have:=H1.out.co.oldk.lt;omega,fun hm=>by have:=H1.out.old _ hm;omega⟩)
 have G2:=Vh (show Chg (kb::pb::qb::F) w (w1.alloc (.cells (insc i) 68)) from ZS ((C1.out.mono (by simp)).trans (C2.out.mono (by simp))))
 clear hb1 H1 C1 C2 HD HRU
 generalize w1.alloc (.cells (insc i) 68)=w2 at *
 generalize w1.heap.size=p at *
 have o2:=old hb2
 have ox2:=old hx2
 have n1:¬p=kb:=HPK.out.1
 have n2:¬kb=p:=fun e=>HPK.out.1 e.symm
 have R1:∀y:Aft w2.heap.size w2,y.w.heap[p]? =some (.cells (insc i) 68 (0,0)):=fun y=>(y.block ox2.lt).trans hx2
 have R2:∀y:Aft w2.heap.size w2,y.w.heap[kb]? =some (.cells (coc Q1.id Q1.ru Q1.rg pb Q1.pr.length Q1.pc qb Q1.wt) 136 (0,0)):=fun y=>(y.block o2.lt).trans hb2
 refine XL w2.heap.size 26 22 (by kernel_rfl) (by kernel_rfl) (fun ou v a ho hy=>by
  obtain rfl:=Option.some.inj ho
  exact Jp rfl ⟨⟨w2,Below.refl _ _⟩,rfl⟩ hy) (fun d v c a w h=>by cases d<;>exact h) ?_
 simp only [List.take_succ_cons,List.take_zero,List.drop_succ_cons,List.drop_zero]
 repeat (go_big_quiet_step (first |(go_at_call 111;exact Jq (Nat.le_refl _) (GD.out _))))
 refine wpQuiet_nil ?_
 rintro _ ⟨y,rfl⟩
 have CY:=Vh (Below.chg y.below (Nat.le_refl _))
 have H3:=Vh (H2.out.keep0 CY.out)
 have r1:=R1 y
 have r2:=R2 y
 generalize y.w=w3 at *
 go_wp2_with fail
 refine (EN.out _ _ (H3.out.setReg la HV.out) HP.out).mono ?_
 rintro e w4 ⟨v,F',rfl,hd⟩
 go_wp2_with fail
 go_ret
 exact CSTo.from ((G2.out.trans (CY.out.mono (by simp))).trans (ZS ((Chg.refl [kb,pb,qb] w3).setCell kb _ _ (.inl (by simp))))) (fun k hk=>.inl hk) ⟨v,F',rfl,hd⟩
theorem xexec_7 (hd:decB u=true) (hk:(Qz u).op=7):Calls Tryz.prog 87 #[.pointer (some ⟨kb,0,none⟩),.pointer (some ⟨sy,0,none⟩)] w (CSTo W w c sy F kb pb qb S (Yo (setR (QI Q u) (Qz u).a (doV (Qz u).op (regA (QI Q u) (Qz u).b) (regA (QI Q u) (Qz u).c)))) []):=by
 have _:=hI
 have _:=hN
 have _:=hn
 have _:=hR
 have _:=hR2
 have _:=hT
 have hg:YF (Qz u)=true:=by unfold decB at hd;rw [Bool.and_eq_true] at hd;exact hd.1
 obtain ⟨_,ga,gb,gc,gm⟩:=Zw hg
 have hpl:=(Vg hx).1
 have hpn:=h.co.ok.np
 have hp:(QI Q u).pc<2147483648:=by show Q.pc<_;omega
 have DH:=Qbf h.co hx
 rw [hd,show decI u=Qz u by unfold decI;rw [hd];rfl] at DH
 have HD:=Vh DH
 have RU:=Qao h.co.own
 rw [hru] at RU
 have HRU:=Vh RU
 have HP:=Vh hp
 have H1:=Vh (fun (w1:World) (hc:Chg [pb] w w1) (hC:Cor w1 kb pb qb (QI Q u))=>h.core (hc.mono (by simp)) hC)
 have EN:=Vh (fun (w':World) (Q':Co) (h':CS W w' c sy F S kb pb qb Q') (hp:Q'.pc<2147483648)=>(Qaf h'.co h'.old hp).mono fun e w' hd=>h'.ofCo hd)
 obtain ⟨na,hna⟩:∃n:Nat,(Qz u).a=(n:Int):=⟨(Qz u).a.toNat,by omega⟩
 have la:na<8:=by omega
 have la':(na:Int)<8:=by omega
 obtain ⟨nb,hnb⟩:∃n:Nat,(Qz u).b=(n:Int):=⟨(Qz u).b.toNat,by omega⟩
 have lb:nb<8:=by omega
 have lb':(nb:Int)<8:=by omega
 obtain ⟨nc,hnc⟩:∃n:Nat,(Qz u).c=(n:Int):=⟨(Qz u).c.toNat,by omega⟩
 have lc:nc<8:=by omega
 have lc':(nc:Int)<8:=by omega
 have eb:regA (QI Q u) (Qz u).b=regN (QI Q u).rg nb:=by unfold regA;rw [hnb,Int.toNat_natCast]
 have ec:regA (QI Q u) (Qz u).c=regN (QI Q u).rg nc:=by unfold regA;rw [hnc,Int.toNat_natCast]
 have p1:=h.co.ok.pos.read u |>.reg (Qz u).b
 have p2:=h.co.ok.pos.read u |>.reg (Qz u).c
 rw [eb] at p1
 rw [ec] at p2
 have HV:=Vh (Qev 7 (b:=regN (QI Q u).rg nb) (c:=regN (QI Q u).rg nc) p1)
 have GD:=Vh (fun (w':World)=>Qgd 7 (regN (QI Q u).rg nb) (regN (QI Q u).rg nc) p2 w' |>.mono fun _ _ h=>(⟨h.1,h.2▸Chg.mapW _ _⟩:_∧Chg [] w' _))
 rw [eb,ec,hk,hna]
 clear eb ec p1 p2
 have h8:(QI Q u).rg.length=8:=h.co.ok.h8
 clear h hI hN hn hR hR2 hT hru hx hd DH RU ga gb gc gm hg hpl hpn hp
 generalize Qz u=i at *
 generalize QI Q u=Q1 at *
 go_enter Tryz.func87,Tryz.ntmps87
 try dsimp only [List.append]
 go_wp2_with (first |(go_at_call 72;refine HRU.out.mono ?_;rintro e w' ⟨rfl,rfl⟩)|(go_at_call 109;refine HD.out.mono ?_;rintro e w1 ⟨rfl,hC1,hc1⟩;have hb1:=hC1.own;have H1:=Vh (H1.out w1 hc1 hC1);have C1:=Vh hc1;clear hC1 hc1))
 have hx2:(w1.alloc (.cells (insc i) 68)).heap[w1.heap.size]? =some (.cells (insc i) 68 (0,0)):=by simp
 have C2:=Vh (show Chg [] w1 (w1.alloc (.cells (insc i) 68)) from (Chg.refl [] w1).alloc _)
 have hb2:=C2.out.keep hb1 (by simp)
 have H2:=Vh (H1.out.keep0 C2.out)
 have HPK:=Vh (show w1.heap.size≠kb∧w1.heap.size∉F from ⟨by have:=H1.out.co.oldk.lt;omega,fun hm=>by have:=H1.out.old _ hm;omega⟩)
 have G2:=Vh (show Chg (kb::pb::qb::F) w (w1.alloc (.cells (insc i) 68)) from ZS ((C1.out.mono (by simp)).trans (C2.out.mono (by simp))))
 clear hb1 H1 C1 C2 HD HRU
 generalize w1.alloc (.cells (insc i) 68)=w2 at *
 generalize w1.heap.size=p at *
 have o2:=old hb2
 have ox2:=old hx2
 have n1:¬p=kb:=HPK.out.1
 have n2:¬kb=p:=fun e=>HPK.out.1 e.symm
 have R1:∀y:Aft w2.heap.size w2,y.w.heap[p]? =some (.cells (insc i) 68 (0,0)):=fun y=>(y.block ox2.lt).trans hx2
 have R2:∀y:Aft w2.heap.size w2,y.w.heap[kb]? =some (.cells (coc Q1.id Q1.ru Q1.rg pb Q1.pr.length Q1.pc qb Q1.wt) 136 (0,0)):=fun y=>(y.block o2.lt).trans hb2
 refine XL w2.heap.size 26 22 (by kernel_rfl) (by kernel_rfl) (fun ou v a ho hy=>by
  obtain rfl:=Option.some.inj ho
  exact Jp rfl ⟨⟨w2,Below.refl _ _⟩,rfl⟩ hy) (fun d v c a w h=>by cases d<;>exact h) ?_
 simp only [List.take_succ_cons,List.take_zero,List.drop_succ_cons,List.drop_zero]
 repeat (go_big_quiet_step (first |(go_at_call 111;exact Jq (Nat.le_refl _) (GD.out _))))
 refine wpQuiet_nil ?_
 rintro _ ⟨y,rfl⟩
 have CY:=Vh (Below.chg y.below (Nat.le_refl _))
 have H3:=Vh (H2.out.keep0 CY.out)
 have r1:=R1 y
 have r2:=R2 y
 generalize y.w=w3 at *
 go_wp2_with fail
 refine (EN.out _ _ (H3.out.setReg la HV.out) HP.out).mono ?_
 rintro e w4 ⟨v,F',rfl,hd⟩
 go_wp2_with fail
 go_ret
 exact CSTo.from ((G2.out.trans (CY.out.mono (by simp))).trans (ZS ((Chg.refl [kb,pb,qb] w3).setCell kb _ _ (.inl (by simp))))) (fun k hk=>.inl hk) ⟨v,F',rfl,hd⟩
end
end
section
set_option maxRecDepth 100000
def letH (op:Int):List UInt8:=if op=1 then [65,73] else if (2≤op∧op≤7)∨op=10∨op=11 then [65,66,67] else if op=8∨op=9∨(18≤op∧op≤20) then [65,66,73] else if 12≤op∧op≤14 then [66,73] else if op=17 then [73] else if op=21 then [65] else []
theorem rHas (op:Int) (l:List UInt8) (h0:0≤op) (h22:op≤22) (hl:letH op=l) (w:World):Calls Tryz.prog 139 #[.int .i64 op] w fun e w'=>e=.returned (.string ⟨l.toArray⟩)∧w=w':=by
 have h:op=0∨op=1∨op=2∨op=3∨op=4∨op=5∨op=6∨op=7∨op=8∨op=9∨op=10∨op=11∨op=12∨op=13∨op=14∨op=15∨op=16∨op=17∨op=18∨op=19∨op=20∨op=21∨op=22:=by omega
 clear h0 h22
 rcases h with rfl|rfl|rfl|rfl|rfl|rfl|rfl|rfl|rfl|rfl|rfl|rfl|rfl|rfl|rfl|rfl|rfl|rfl|rfl|rfl|rfl|rfl|rfl
 all_goals
  subst hl
  go_enter Tryz.func139,Tryz.ntmps139
  try dsimp only [List.append]
  go_wp2_with fail
  go_ret
  exact ⟨rfl,rfl⟩
theorem rhas_at (op c:Int) (l:List UInt8) (h0:0≤op) (h22:op≤22) (hl:letH op=l) (hb:l.length≤3) (w:World):Calls Tryz.prog 105 #[.int .i64 op,.int .u8 c] w fun e w'=>e=.returned (.bool (l.any fun b=>(b.toNat:Int)==c))∧w=w':=by
 have HH:=Vh (fun w=>rHas op l h0 h22 hl w)
 clear h0 h22 hl
 go_enter Tryz.func105,Tryz.ntmps105
 go_wp2_with (go_at_call 139;refine (HH.out _).mono ?_;rintro e w' ⟨rfl,rfl⟩)
 go_loop [6] (fun i=>∃k:Nat,k≤l.length∧i=.int .i64 k∧∀j,j<k→∀b,l[j]? =some b→((b.toNat:Int)==c)=false) (fun i=>l.length-(intOf i).toNat)
 case atStart=>exact ⟨0,by omega,rfl,fun j hj=>by omega⟩
 case round=>
  obtain ⟨k,hk,rfl,hall⟩:=hrel
  have HA:=Vh hall
  clear hall
  by_cases hlt:k<l.length
  ·obtain ⟨b,hbk⟩:∃b,l[k]? =some b:=⟨l[k],List.getElem?_eq_getElem hlt⟩
   have HB:=Vh hbk
   have HLT:=Vh hlt
   have g1:(k:Int)<(l.length:Int):=by omega
   have g0:(0:Int)≤(k:Int):=by omega
   have HE:=Vh (show ∀(h:k<(⟨l.toArray⟩:ByteArray).size),(⟨l.toArray⟩:ByteArray)[k]=b from fun _=>(Vg hbk).2)
   go_wp2_with fail
   ·rename_i h _
    rw [HE.out] at h
    go_ret
    refine ⟨?_,rfl⟩
    rw [show (l.any fun b=>(b.toNat:Int)==c)=true from List.any_eq_true.2 ⟨b,List.mem_of_getElem? HB.out,h⟩]
    rfl
   ·rename_i h
    rw [HE.out] at h
    refine ⟨⟨k+1,by have:=HLT.out;omega,by go_num,fun j hj b' hb'=>?_⟩,?_⟩
    ·by_cases hjk:j=k
     ·subst hjk
      have:=HB.out
      rw [hb'] at this
      injection this with this
      rw [this];exact h
     ·exact HA.out j (by omega) b' hb'
    ·have:=HLT.out
     simp [intOf]
     omega
  ·have hkl:k=l.length:=by omega
   subst hkl
   go_wp2_with fail
   go_ret
   refine ⟨?_,rfl⟩
   have:(l.any fun b=>(b.toNat:Int)==c)=false:=by
    rw [List.any_eq_false]
    intro b hb
    obtain ⟨j,hj⟩:=List.getElem?_of_mem hb
    have:=HA.out j (Vg hj).1 b hj
    simp [this]
   rw [this]
   rfl
theorem let_A (op:Int) (h0:0≤op) (h22:op≤22):(letH op).any (fun b=>(b.toNat:Int)==65)=hasA op∧(letH op).any (fun b=>(b.toNat:Int)==66)=hasB op∧(letH op).any (fun b=>(b.toNat:Int)==67)=hasC op∧(letH op).any (fun b=>(b.toNat:Int)==73)=hasI op∧(letH op).length≤3:=by
 have h:op=0∨op=1∨op=2∨op=3∨op=4∨op=5∨op=6∨op=7∨op=8∨op=9∨op=10∨op=11∨op=12∨op=13∨op=14∨op=15∨op=16∨op=17∨op=18∨op=19∨op=20∨op=21∨op=22:=by omega
 clear h0 h22
 rcases h with rfl|rfl|rfl|rfl|rfl|rfl|rfl|rfl|rfl|rfl|rfl|rfl|rfl|rfl|rfl|rfl|rfl|rfl|rfl|rfl|rfl|rfl|rfl
 all_goals exact ⟨by decide,by decide,by decide,by decide,by decide⟩
theorem JA (op:Int) (h0:0≤op) (h22:op≤22) (w:World):Calls Tryz.prog 105 #[.int .i64 op,.int .u8 65] w fun e w'=>e=.returned (.bool (hasA op))∧w=w':=by
 have h:=let_A op h0 h22
 rw [←h.1];exact rhas_at op 65 _ h0 h22 rfl h.2.2.2.2 w
theorem Jz (op:Int) (h0:0≤op) (h22:op≤22) (w:World):Calls Tryz.prog 105 #[.int .i64 op,.int .u8 66] w fun e w'=>e=.returned (.bool (hasB op))∧w=w':=by
 have h:=let_A op h0 h22
 rw [←h.2.1];exact rhas_at op 66 _ h0 h22 rfl h.2.2.2.2 w
theorem Jy (op:Int) (h0:0≤op) (h22:op≤22) (w:World):Calls Tryz.prog 105 #[.int .i64 op,.int .u8 67] w fun e w'=>e=.returned (.bool (hasC op))∧w=w':=by
 have h:=let_A op h0 h22
 rw [←h.2.2.1];exact rhas_at op 67 _ h0 h22 rfl h.2.2.2.2 w
theorem Jx (op:Int) (h0:0≤op) (h22:op≤22) (w:World):Calls Tryz.prog 105 #[.int .i64 op,.int .u8 73] w fun e w'=>e=.returned (.bool (hasI op))∧w=w':=by
 have h:=let_A op h0 h22
 rw [←h.2.2.2.1];exact rhas_at op 73 _ h0 h22 rfl h.2.2.2.2 w
theorem rreg (n:Int) (w:World):Calls Tryz.prog 106 #[.int .i64 n] w fun e w'=>e=.returned (.bool (decide (0≤n)&&decide (n≤7)))∧w=w':=by
 cases h1:decide (0≤n)
 all_goals
  go_enter Tryz.func106,Tryz.ntmps106
  go_wp2
  go_ret
  exact ⟨rfl,rfl⟩
end
end Go.Proofs.YtcgjofbkcgedfaaGreatDoor
