/- Texts of the walk, one behind the other: Ago1 Arrq Pra Dirg Prb. No condition. -/
import Derived.Test.YtadeoflkppiflaaGreatDoorSaa
import Derived.Test.YtadeoflkppiflaaGreatDoorSae
import Derived.Test.YtadeoflkppiflaaGreatDoorSaf
import Derived.Test.YtadeoflkppiflaaGreatDoorSag
namespace Go.Proofs.YtadeoflkppiflaaGreatDoor
open Go.RowKit
set_option linter.unusedVariables false
set_option maxHeartbeats 1000000
section
def way1 (st:Int):Nat:=if 3<st then 1 else 0
section
variable {S N:Nat} {s:Sta} (hg:Good S N s.1) (hs:Sane s.1)
include hg hs
end
end
section
structure OnceAt (S M:Nat) (xs:List Slt) (u:Int):Prop where
 good:Good S M xs
 apart:∀(i j:Nat) (x y:Slt),xs[i]? =some x→xs[j]? =some y→i≠j→x.st≠0→y.st≠0→x.li≠y.li∧x.us≠y.us
 top:∀x∈xs,x.st≠0→x.us≤u
 pos:∀x∈xs,x.st≠0→1≤x.st
theorem OnceAt.new {S M:Nat} (h:Good S M (List.replicate (S*M) sltZ)):OnceAt S M (List.replicate (S*M) sltZ) 0:=by
 have hz:∀x∈List.replicate (S*M) sltZ,x.st=0:=fun x hx=>by rw [List.eq_of_mem_replicate hx];rfl
 refine ⟨h,?_,?_,?_⟩
 ·intro i j x y hx _ _ h0 _
  exact absurd (hz x (List.mem_of_getElem? hx)) h0
 ·intro x hx h0;exact absurd (hz x hx) h0
 ·intro x hx h0;exact absurd (hz x hx) h0
theorem OnceAt.put {S M:Nat} {xs:List Slt} {u:Int} (h:OnceAt S M xs u) {p:Nat} {y:Slt} (hg:Good S M (xs.set p y)) (hu:y.us=u+1) (hs:1≤y.st) (hno:∀(j:Nat) (z:Slt),xs[j]? =some z→j≠p→z.st≠0→z.li≠y.li):OnceAt S M (xs.set p y) (u+1):=by
 have hset:∀(i:Nat) (z:Slt),(xs.set p y)[i]? =some z→(i=p∧z=y)∨(i≠p∧xs[i]? =some z):=by
  intro i z hz
  rw [List.getElem?_set] at hz
  split at hz
  ·rename_i e
   split at hz
   ·injection hz with hz
    exact .inl ⟨e.symm,hz.symm⟩
   ·cases hz
  ·rename_i e
   exact .inr ⟨fun e2=>e e2.symm,hz⟩
 refine ⟨hg,?_,?_,?_⟩
 ·intro i j x z hx hz hij h0 h1
  rcases hset i x hx with ⟨e1,rfl⟩|⟨e1,hx'⟩
  ·rcases hset j z hz with ⟨e2,rfl⟩|⟨e2,hz'⟩
   ·omega
   ·have h2:=hno j z hz' e2 h1
    have h3:=h.top z (List.mem_of_getElem? hz') h1
    exact ⟨fun e=>h2 e.symm,by omega⟩
  ·rcases hset j z hz with ⟨e2,rfl⟩|⟨e2,hz'⟩
   ·have h2:=hno i x hx' e1 h0
    have h3:=h.top x (List.mem_of_getElem? hx') h0
    exact ⟨h2,by omega⟩
   ·exact h.apart i j x z hx' hz' hij h0 h1
 ·intro x hx h0
  rcases List.mem_or_eq_of_mem_set hx with h1|rfl
  ·have:=h.top x h1 h0;omega
  ·omega
 ·intro x hx h0
  rcases List.mem_or_eq_of_mem_set hx with h1|rfl
  ·exact h.pos x h1 h0
  ·exact hs
theorem OnceAt.find {S M:Nat} {xs:List Slt} {u:Int} (h:OnceAt S M xs u) {i:Nat} {y:Slt} (hy:xs[i]? =some y) (h0:y.st≠0):xs.findIdx (Xv y.li)=i∧Qn xs y.li=y∧Xt xs y.li=true:=by
 have hi:=(Vg hy).1
 have e:xs.findIdx (Xv y.li)=i:=by
  rcases Qgo (Xv y.li) xs with ⟨k,z,e1,e2,e3,e4,e5,e6⟩|⟨e1,e2,e3⟩
  ·obtain ⟨h1,h2⟩:=Ja e4
   by_cases hk:k=i
   ·omega
   ·exact absurd h2 (h.apart k i z y e3 hy hk h1 h0).1
  ·have:=e3 y (List.mem_of_getElem? hy)
   simp [Xv,h0] at this
 refine ⟨e,?_,?_⟩
 ·unfold Qn;rw [e,hy]
 ·unfold Xt;rw [e];simpa using hi
theorem OnceAt.other {S M:Nat} {xs:List Slt} {u:Int} (h:OnceAt S M xs u) {i:Nat} {y:Slt} (hy:xs[i]? =some y) (h0:y.st≠0):∀(j:Nat) (z:Slt),xs[j]? =some z→j≠i→z.st≠0→z.li≠y.li:=
 fun j z hz hj hz0=>(h.apart j i z y hz hy hj hz0 h0).1
theorem OnceAt.set {S M:Nat} {xs:List Slt} {u:Int} (h:OnceAt S M xs u) (li st:Int) (l:List Int) (hl:l.length=8):OnceAt S M (setXs S M xs u li st l hl) (setU S M xs u li st):=by
 have hg:=h.good.setXs u li st l hl
 unfold setXs setU at *
 by_cases hb:XT li st
 ·rw [if_pos hb,if_pos hb];exact h
 rw [if_neg hb] at hg
 rw [if_neg hb,if_neg hb]
 have hst:1≤st:=by unfold XT at hb;omega
 rcases h.good.where li with ⟨k,y,e1,e2,hk,hy,h0,hli,_,e3,e4,e5⟩|⟨e1,e2,e3,e4⟩
 ·have ep:JS S M xs li=Xc S li*M+k:=by unfold JS;rw [e2,if_pos e5]
  rw [ep] at hg ⊢
  rw [if_pos e5]
  refine h.put hg rfl hst ?_
  intro j z hz hj hz0
  have:=h.other hy h0 j z hz hj hz0
  rw [hli] at this
  exact this
 ·rcases h.good.room li with ⟨k,y,d1,hk,hy,hst0,d3,d4,_⟩|⟨d1,d2,d3⟩
  ·have ep:JS S M xs li=Xc S li*M+k:=by unfold JS;rw [e3,d1,if_neg (by omega),if_pos hk]
   rw [ep] at hg ⊢
   rw [if_pos d4]
   refine h.put hg rfl hst ?_
   intro j z hz hj hz0 e
   have:=e4 z (List.mem_of_getElem? hz)
   simp [Xv,hz0] at this
   exact this e
  ·have ep:JS S M xs li=xs.length:=by unfold JS;rw [e3,d2,if_neg (by omega),if_neg (by omega)]
   rw [ep,Qcu,if_neg (by omega)]
   exact h
theorem OnceAt.touch {S M:Nat} {xs:List Slt} {u:Int} (h:OnceAt S M xs u) (li:Int):OnceAt S M (touchXs xs u li) (J8 xs u li):=by
 have hg:=h.good.touchXs u li
 unfold touchXs J8 at *
 rcases Qgo (Xv li) xs with ⟨k,y,e1,e2,e3,e4,e5,e6⟩|⟨e1,e2,e3⟩
 ·obtain ⟨h1,h2⟩:=Ja e4
  rw [e2,e3] at hg ⊢
  rw [if_pos e5]
  exact h.put hg rfl (h.pos y (List.mem_of_getElem? e3) h1) (fun j z hz hj hz0=>h.other e3 h1 j z hz hj hz0)
 ·rw [e2,List.getElem?_eq_none (Nat.le_refl _),if_neg (by omega)]
  exact h
theorem OnceAt.drop {S M:Nat} {xs:List Slt} {u:Int} (h:OnceAt S M xs u) (li:Int):OnceAt S M (dropXs xs li) u:=by
 have hg:=h.good.dropXs li
 unfold dropXs at *
 have hset:∀(i:Nat) (z:Slt),(xs.set (xs.findIdx (Xv li)) sltZ)[i]? =some z→z.st≠0→xs[i]? =some z:=by
  intro i z hz h0
  rw [List.getElem?_set] at hz
  split at hz
  ·split at hz
   ·injection hz with hz
    rw [←hz] at h0
    exact absurd rfl h0
   ·cases hz
  ·exact hz
 refine ⟨hg,?_,?_,?_⟩
 ·intro i j x y hx hy hij h0 h1
  exact h.apart i j x y (hset i x hx h0) (hset j y hy h1) hij h0 h1
 ·intro x hx h0
  obtain ⟨i,hi⟩:=List.getElem?_of_mem hx
  exact h.top x (List.mem_of_getElem? (hset i x hi h0)) h0
 ·intro x hx h0
  obtain ⟨i,hi⟩:=List.getElem?_of_mem hx
  exact h.pos x (List.mem_of_getElem? (hset i x hi h0)) h0
end
section
theorem Qck {xs:List Slt} {li:Int} (h:∀x∈xs,Xv li x=false):Qn xs li=sltZ:=by
 rcases JL xs li with ⟨h1,h2,_⟩|⟨h1,_⟩
 ·rw [h _ h1] at h2;cases h2
 ·exact h1
theorem Qfz {S M:Nat} {xs:List Slt} {u:Int} (h:OnceAt S M xs u) (li:Int):(∃(i:Nat) (z:Slt),xs[i]? =some z∧z.st≠0∧z.li=li∧Qn xs li=z∧xs.findIdx (Xv li)=i)∨(Qn xs li=sltZ∧∀x∈xs,Xv li x=false):=by
 rcases JL xs li with ⟨h1,h2,_⟩|⟨h1,_,h2⟩
 ·left
  obtain ⟨i,hi⟩:=List.getElem?_of_mem h1
  obtain ⟨a,b⟩:=Ja h2
  refine ⟨i,_,hi,a,b,rfl,?_⟩
  have:=(h.find hi a).1
  rw [b] at this
  exact this
 ·exact .inr ⟨h1,h2⟩
theorem OnceAt.putFind {S M:Nat} {xs:List Slt} {u u':Int} (h:OnceAt S M xs u) {p:Nat} {x y:Slt} {li:Int} (hp:xs[p]? =some x) (hx:x.st=0∨x.li=li) (hy0:y.st≠0) (hyl:y.li=li) (h':OnceAt S M (xs.set p y) u'):
 Qn (xs.set p y) li=y∧∀li',li'≠li→Qn (xs.set p y) li'=Qn xs li':=by
 have hpl:=(Vg hp).1
 have hyp:(xs.set p y)[p]? =some y:=by rw [List.getElem?_set];simp [hpl]
 refine ⟨?_,fun li' hne=>?_⟩
 ·have:=(h'.find hyp hy0).2.1
  rw [hyl] at this
  exact this
 ·rcases Qfz h li' with ⟨i,z,hi,hz,hzl,e,_⟩|⟨e,hn⟩
  ·have hip:i≠p:=by
    rintro rfl
    rw [hp] at hi
    injection hi with hi
    subst hi
    rcases hx with h1|h1
    ·exact hz h1
    ·exact hne (hzl.symm.trans h1)
   have hi':(xs.set p y)[i]? =some z:=by rw [List.getElem?_set_ne (fun e=>hip e.symm)];exact hi
   have:=(h'.find hi' hz).2.1
   rw [hzl] at this
   rw [e,this]
  ·rw [e]
   apply Qck
   intro w hw
   rcases List.mem_or_eq_of_mem_set hw with h1|rfl
   ·exact hn w h1
   ·simp [Xv,hyl];intro _;exact fun e=>hne e.symm
theorem OnceAt.dropFind {S M:Nat} {xs:List Slt} {u:Int} (h:OnceAt S M xs u) (li:Int):Qn (dropXs xs li) li=sltZ∧∀li',li'≠li→Qn (dropXs xs li) li'=Qn xs li':=by
 have h':=h.drop li
 rcases Qfz h li with ⟨p,x,hp,hx,hxl,_,hf⟩|⟨_,hn⟩
 ·unfold dropXs at h' ⊢
  rw [hf] at h' ⊢
  have hpl:=(Vg hp).1
  refine ⟨?_,fun li' hne=>?_⟩
  ·apply Qck
   intro w hw
   obtain ⟨j,hj⟩:=List.getElem?_of_mem hw
   rw [List.getElem?_set] at hj
   split at hj
   ·rename_i hjp
    subst hjp
    injection hj with hj;subst hj;rfl
   ·rename_i hjp
    by_cases hw0:w.st=0
    ·simp [Xv,hw0]
    ·have:=h.other hp hx j w hj (fun e=>hjp e.symm) hw0
     rw [hxl] at this
     simp [Xv,this]
  ·rcases Qfz h li' with ⟨i,z,hi,hz,hzl,e,_⟩|⟨e,hn⟩
   ·have hip:i≠p:=by
     rintro rfl
     rw [hp] at hi
     injection hi with hi
     subst hi
     exact hne (hzl.symm.trans hxl)
    have hi':(xs.set p sltZ)[i]? =some z:=by rw [List.getElem?_set_ne (fun e=>hip e.symm)];exact hi
    have:=(h'.find hi' hz).2.1
    rw [hzl] at this
    rw [e,this]
   ·rw [e]
    apply Qck
    intro w hw
    rcases List.mem_or_eq_of_mem_set hw with h1|rfl
    ·exact hn w h1
    ·rfl
 ·have e:dropXs xs li=xs:=by
   unfold dropXs
   rw [List.findIdx_eq_length.2 hn]
   exact List.set_eq_of_length_le (Nat.le_refl _)
  rw [e]
  exact ⟨Qck hn,fun _ _=>rfl⟩
structure AJ (S N n:Nat) (s:Sta):Prop where
 once:OnceAt S N s.1 s.2
 sane:Sane s.1
 pos:0≤s.2
 lines:∀x∈s.1,x.st≠0→x.li<n
theorem AJ.good {S N n:Nat} {s:Sta} (h:AJ S N n s):Good S N s.1:=h.once.good
def vw (s:Sta) (li:Int):Int×List Int:=((Qn s.1 li).st,(Qn s.1 li).l)
theorem AJ.line {S N n:Nat} {s:Sta} (h:AJ S N n s) {li:Int} (h0:(vw s li).1≠0):0≤li∧li<n∧(Qn s.1 li).li=li∧Xt s.1 li=true:=by
 obtain ⟨h1,h2⟩:=Qeh (show (Qn s.1 li).st≠0 from h0)
 rcases JL s.1 li with ⟨h3,_,_⟩|⟨h3,_⟩
 ·have h4:=h.lines _ h3 h0
  obtain ⟨i,hi⟩:=List.getElem?_of_mem h3
  have h5:=(h.good.home i _ hi h0).1
  rw [h1] at h4 h5
  exact ⟨h5,h4,h1,h2⟩
 ·exact absurd (show (Qn s.1 li).st=0 by rw [h3];rfl) h0
section
variable {S N n:Nat} {s:Sta} (h:AJ S N n s)
include h
theorem AJ.sane1 (li:Int):0≤(vw s li).1∧(vw s li).1≤9:=Qam h.sane li
theorem AJ.set {li st:Int} (hn:li<n) (l:List Int) (hl:l.length=8) (hs:st≤9):AJ S N n (setS S N s li st l hl):=by
 refine ⟨h.once.set li st l hl,h.sane.set li st l hl,Int.le_trans h.pos Qfa.1,?_⟩
 intro x hx h0
 have e:(setS S N s li st l hl).1=setXs S N s.1 s.2 li st l hl:=rfl
 rw [e] at hx
 unfold setXs at hx
 split at hx
 ·exact h.lines x hx h0
 ·rcases List.mem_or_eq_of_mem_set hx with h1|rfl
  ·exact h.lines x h1 h0
  ·exact hn
theorem AJ.touch (li:Int):AJ S N n (Qb4 s li):=by
 refine ⟨h.once.touch li,h.sane.touch li,Int.le_trans h.pos Qfo.1,?_⟩
 intro x hx h0
 have e:(Qb4 s li).1=touchXs s.1 s.2 li:=rfl
 rw [e] at hx
 unfold touchXs at hx
 split at hx
 ·rename_i y hy
  rcases List.mem_or_eq_of_mem_set hx with h1|rfl
  ·exact h.lines x h1 h0
  ·exact h.lines y (List.mem_of_getElem? hy) h0
 ·exact h.lines x hx h0
theorem AJ.drop (li:Int):AJ S N n (Qcm s li):=by
 refine ⟨h.once.drop li,h.sane.drop li,h.pos,?_⟩
 intro x hx h0
 rcases List.mem_or_eq_of_mem_set hx with h1|rfl
 ·exact h.lines x h1 h0
 ·exact absurd rfl h0
theorem AJ.vwSet {li st:Int} (h0:0≤li) (h1:1≤st) (h9:st≤9) (hr:Xt s.1 li=true∨X5 S N s.1 li=true) (l:List Int) (hl:l.length=8):
 vw (setS S N s li st l hl) li=(st,l)∧∀li',li'≠li→vw (setS S N s li st l hl) li'=vw s li':=by
 have hb:¬XT li st:=by unfold XT;omega
 have ho:=h.once.set li st l hl
 have e:(setS S N s li st l hl).1=setXs S N s.1 s.2 li st l hl:=rfl
 unfold vw
 rw [e]
 unfold setXs at ho ⊢
 rw [if_neg hb] at ho ⊢
 have hx:∃x,s.1[JS S N s.1 li]? =some x∧(x.st=0∨x.li=li):=by
  by_cases hd:s.1.findIdx (Xv li)<s.1.length
  ·unfold JS
   rw [if_pos hd]
   refine ⟨_,List.getElem?_eq_getElem hd,.inr ?_⟩
   exact (Ja (List.findIdx_getElem (w:=hd))).2
  ·have hr':X5 S N s.1 li=true:=by
    rcases hr with h2|h2
    ·unfold Xt at h2;exact absurd (of_decide_eq_true h2) hd
    ·exact h2
   unfold X5 at hr'
   simp at hr'
   unfold JS
   rw [if_neg hd,if_pos hr'.2]
   have h3:Xc S li*N+(seg N s.1 (Xc S li)).findIdx YZ<s.1.length:=by
    have:=h.good.fit li
    have:=h.good.len
    omega
   refine ⟨_,List.getElem?_eq_getElem h3,.inl ?_⟩
   have h4:(seg N s.1 (Xc S li)).findIdx YZ<(seg N s.1 (Xc S li)).length:=by
    rw [h.good.seg_len];exact hr'.2
   have h5:=List.findIdx_getElem (w:=h4)
   have h6:=Qde s.1 (Xc S li) _ hr'.2
   rw [List.getElem?_eq_getElem h4,List.getElem?_eq_getElem h3] at h6
   injection h6 with h6
   rw [h6] at h5
   simpa [YZ] using h5
 obtain ⟨x,hp,hx⟩:=hx
 obtain ⟨a,b⟩:=h.once.putFind hp hx (y:=⟨st,li,l,s.2+1,hl⟩) (by show st≠0;omega) rfl ho
 exact ⟨by rw [a],fun li' hne=>by rw [b li' hne]⟩
theorem AJ.vwTouch (li li':Int):vw (Qb4 s li) li'=vw s li':=by
 have ho:=h.once.touch li
 unfold vw
 have e:(Qb4 s li).1=touchXs s.1 s.2 li:=rfl
 rw [e]
 unfold touchXs at ho ⊢
 rcases Qfz h.once li with ⟨p,x,hp,hx,hxl,hfv,hf⟩|⟨_,hn⟩
 ·rw [hf,hp] at ho ⊢
  obtain ⟨a,b⟩:=h.once.putFind hp (.inr hxl) (y:=x.use (s.2+1)) hx hxl ho
  by_cases hne:li'=li
  ·subst hne
   rw [hfv]
   show ((Qn (s.1.set p (x.use (s.2+1))) li').st,(Qn (s.1.set p (x.use (s.2+1))) li').l)=_
   rw [a];rfl
  ·show ((Qn (s.1.set p (x.use (s.2+1))) li').st,(Qn (s.1.set p (x.use (s.2+1))) li').l)=_
   rw [b li' hne]
 ·rw [List.findIdx_eq_length.2 hn,List.getElem?_eq_none (Nat.le_refl _)]
theorem AJ.vwDrop (li:Int):(vw (Qcm s li) li).1=0∧∀li',li'≠li→vw (Qcm s li) li'=vw s li':=by
 obtain ⟨a,b⟩:=h.once.dropFind li
 unfold vw
 have e:(Qcm s li).1=dropXs s.1 li:=rfl
 rw [e]
 exact ⟨by rw [a];rfl,fun li' hne=>by rw [b li' hne]⟩
end
inductive AOk (li:Int):Int→List Int→Int→List Int→List Ms→Prop
 |askS (l l':List Int):AOk li 0 l 4 l' [ms4 1 li false false]
 |askM (l l':List Int):AOk li 0 l 5 l' [ms4 2 li false false]
 |up (l:List Int):AOk li 1 l 6 l [ms4 2 li false false]
 |outS (l:List Int):AOk li 1 l 7 l [ms4 3 li false false]
 |outE (l:List Int):AOk li 2 l 7 l [ms4 3 li false false]
 |outM (l:List Int) (m:Ms) (hk:m.kd=3) (hl:m.li=li) (hd:m.di=true) (hke:m.ke=false) (hm:m.l=l):AOk li 3 l 9 l [m]
def Asks (n:Nat) (s s':Sta) (ms:List Ms):Prop:=
 (ms=[]∧∀li,vw s' li=vw s li)∨∃li:Int,0≤li∧li<n∧AOk li (vw s li).1 (vw s li).2 (vw s' li).1 (vw s' li).2 ms∧∀li',li'≠li→vw s' li'=vw s li'
theorem Asks.same (n:Nat) (s:Sta):Asks n s s []:=.inl ⟨rfl,fun _=>rfl⟩
section
variable {S N n:Nat} {s:Sta} (h:AJ S N n s)
include h
theorem AJ.outF (li:Int):AJ S N n (outF S N s li).1∧Asks n s (outF S N s li).1 (outF S N s li).2:=by
 cases hr:Xs (Qn s.1 li).st
 ·rw [show Go.Proofs.YtadeoflkppiflaaGreatDoor.outF S N s li=(s,[]) by unfold Go.Proofs.YtadeoflkppiflaaGreatDoor.outF;rw [if_neg (by simp [hr])]]
  exact ⟨h,.same n s⟩
 ·have hst:=(Qcw _).1 hr
  obtain ⟨h0,hn,hl,hd⟩:=h.line (li:=li) (by show (Qn s.1 li).st≠0;omega)
  rw [show Go.Proofs.YtadeoflkppiflaaGreatDoor.outF S N s li=(setS S N s li (Qc7 (Qn s.1 li).st) (Qn s.1 li).l (Qn s.1 li).h,[Yf 3 (Qn s.1 li) false]) by unfold Go.Proofs.YtadeoflkppiflaaGreatDoor.outF;rw [if_pos hr]]
  have hnx:1≤Qc7 (Qn s.1 li).st∧Qc7 (Qn s.1 li).st≤9:=by unfold Qc7;split<;>omega
  obtain ⟨a,b⟩:=h.vwSet h0 hnx.1 hnx.2 (.inl hd) (Qn s.1 li).l (Qn s.1 li).h
  refine ⟨h.set hn _ _ hnx.2,.inr ⟨li,h0,hn,?_,b⟩⟩
  rw [a]
  show AOk li (Qn s.1 li).st (Qn s.1 li).l (Qc7 (Qn s.1 li).st) (Qn s.1 li).l [Yf 3 (Qn s.1 li) false]
  unfold Qc7 Yf
  generalize Qn s.1 li=x at hst hl
  have h3:x.st=1∨x.st=2∨x.st=3:=by omega
  rcases h3 with h3|h3|h3
  ·rw [h3,if_neg (by omega),if_neg (by omega),hl];exact .outS _
  ·rw [h3,if_neg (by omega),if_neg (by omega),hl];exact .outE _
  ·rw [h3,if_pos rfl,if_pos (.inl rfl)];exact .outM _ _ rfl hl rfl rfl rfl
theorem AJ.getF {li st kd:Int} (hk:(st=4∧kd=1)∨(st=5∧kd=2)) (h0:0≤li) (hn:li<n) (hz:(vw s li).1=0):AJ S N n (getF S N s li st kd).1∧Asks n s (getF S N s li st kd).1 (getF S N s li st kd).2:=by
 cases hr:X5 S N s.1 li
 ·rw [show Go.Proofs.YtadeoflkppiflaaGreatDoor.getF S N s li st kd=Go.Proofs.YtadeoflkppiflaaGreatDoor.outF S N s (Y5 S N s.1 li) by unfold Go.Proofs.YtadeoflkppiflaaGreatDoor.getF;rw [if_neg (by simp [hr])]]
  exact h.outF _
 ·rw [show Go.Proofs.YtadeoflkppiflaaGreatDoor.getF S N s li st kd=(setS S N s li st zl8 rfl,[ms4 kd li false false]) by unfold Go.Proofs.YtadeoflkppiflaaGreatDoor.getF;rw [if_pos hr]]
  obtain ⟨a,b⟩:=h.vwSet h0 (by omega:1≤st) (by omega) (.inr hr) zl8 rfl
  refine ⟨h.set hn _ _ (by omega),.inr ⟨li,h0,hn,?_,b⟩⟩
  rw [a,hz]
  rcases hk with ⟨rfl,rfl⟩|⟨rfl,rfl⟩
  ·exact .askS _ _
  ·exact .askM _ _
omit h in
theorem AJ.gone {li:Int} (hi:Jy s.1=true) (hm:Xs (vw s li).1=false):(vw s li).1=0:=by
 rcases Qbe hi li with h1|h1
 ·exact h1
 ·rw [show (vw s li).1=(Qn s.1 li).st from rfl,h1] at hm;cases hm
theorem AJ.loadF {li:Int} (hn:li<n) (k:Int):AJ S N n (loadF S N s li k).1∧Asks n s (loadF S N s li k).1 (loadF S N s li k).2.2.2∧((loadF S N s li k).2.2.1=true→mayR (vw s li).1=true∧isWd k=true∧isLn li=true∧(loadF S N s li k).2.1=(vw s li).2.getD k.toNat 0):=by
 unfold Go.Proofs.YtadeoflkppiflaaGreatDoor.loadF
 split
 ·rename_i hc
  rw [Bool.and_eq_true] at hc
  have h0:0≤li:=by have:=hc.1;simp [isLn] at this;exact this.1
  split
  ·rename_i hm
   exact ⟨h.touch li,.inl ⟨rfl,fun li'=>h.vwTouch li li'⟩,fun _=>⟨hm,hc.2,hc.1,rfl⟩⟩
  ·rename_i hm
   split
   ·rename_i hi
    have hz:=AJ.gone (li:=li) hi (by
     unfold mayR at hm
     cases h1:Xs (vw s li).1
     ·rfl
     ·rw [show Xs (Qn s.1 li).st=true from h1] at hm;simp at hm)
    obtain ⟨a,b⟩:=h.getF (.inl ⟨rfl,rfl⟩) h0 hn hz
    exact ⟨a,b,fun h=>by cases h⟩
   ·exact ⟨h,.same n s,fun h=>by cases h⟩
 ·exact ⟨h,.same n s,fun h=>by cases h⟩
theorem AJ.reachF {li:Int} (hn:li<n):AJ S N n (reachF S N s li).1∧Asks n s (reachF S N s li).1 (reachF S N s li).2:=by
 unfold Go.Proofs.YtadeoflkppiflaaGreatDoor.reachF
 split
 ·rename_i hc
  simp only [Bool.and_eq_true,Bool.not_eq_true'] at hc
  have h0:0≤li:=by have:=hc.1.1;simp [isLn] at this;exact this.1
  split
  ·rename_i hd
   have hst:(Qn s.1 li).st=1:=by
    rw [Qgz] at hd
    rcases Qbe hc.2 li with h1|h1
    ·rw [h1] at hd;cases hd
    ·have h2:=(Qcw _).1 h1
     have h3:=hc.1.2
     unfold JN Qfk at h3
     simp at h3
     omega
   obtain ⟨a,b⟩:=h.vwSet h0 (by decide:(1:Int)≤6) (by decide) (.inl hd) (Qn s.1 li).l (Qn s.1 li).h
   refine ⟨h.set hn _ _ (by decide),.inr ⟨li,h0,hn,?_,b⟩⟩
   rw [a]
   show AOk li (Qn s.1 li).st (Qn s.1 li).l 6 (Qn s.1 li).l _
   rw [hst]
   exact .up _
  ·rename_i hd
   refine h.getF (.inr ⟨rfl,rfl⟩) h0 hn ?_
   rw [Qgz] at hd
   show (Qn s.1 li).st=0
   simpa using hd
 ·exact ⟨h,.same n s⟩
theorem AJ.storeF {li:Int} (hn:li<n) (k v:Int):AJ S N n (storeF S N s li k v).1∧
 (((storeF S N s li k v).2.1=true∧isWd k=true∧isLn li=true∧((vw s li).1=2∨(vw s li).1=3)∧(storeF S N s li k v).2.2=[]∧vw (storeF S N s li k v).1 li=(3,(vw s li).2.set k.toNat v)∧∀li',li'≠li→vw (storeF S N s li k v).1 li'=vw s li')∨
  ((storeF S N s li k v).2.1=false∧Asks n s (storeF S N s li k v).1 (storeF S N s li k v).2.2)):=by
 unfold Go.Proofs.YtadeoflkppiflaaGreatDoor.storeF
 split
 ·rename_i hc
  rw [Bool.and_eq_true] at hc
  have h0:0≤li:=by have:=hc.1;simp [isLn] at this;exact this.1
  split
  ·rename_i ho
   have hst:(Qn s.1 li).st=2∨(Qn s.1 li).st=3:=by unfold JN Qfk at ho;simpa using ho
   obtain ⟨_,_,_,hd⟩:=h.line (li:=li) (by show (Qn s.1 li).st≠0;omega)
   obtain ⟨a,b⟩:=h.vwSet h0 (by decide:(1:Int)≤3) (by decide) (.inl hd) ((Qn s.1 li).l.set k.toNat v) Cz32
   exact ⟨h.set hn _ _ (by decide),.inl ⟨rfl,hc.2,hc.1,hst,rfl,a,b⟩⟩
  ·obtain ⟨a,b⟩:=h.reachF hn
   exact ⟨a,.inr ⟨rfl,b⟩⟩
 ·exact ⟨h,.inr ⟨rfl,.same n s⟩⟩
theorem AJ.evictF (li:Int):AJ S N n (evictF S N s li).1∧Asks n s (evictF S N s li).1 (evictF S N s li).2.1:=by
 unfold Go.Proofs.YtadeoflkppiflaaGreatDoor.evictF
 split
 ·exact h.outF li
 ·exact ⟨h,.same n s⟩
theorem AJ.hearF {m:Ms} (hg:(mg m&&Z1 m.kd)=true) (hn:m.li<n) (ht:tb m.kd (vw s m.li).1≠0):
 AJ S N n (hearF S N s m).1∧(hearF S N s m).2=(Z8 m.kd (Qn s.1 m.li) (tb m.kd (vw s m.li).1),0)∧(∀li',li'≠m.li→vw (hearF S N s m).1 li'=vw s li')∧
 ((tb m.kd (vw s m.li).1=10→(vw (hearF S N s m).1 m.li).1=0)∧(tb m.kd (vw s m.li).1=11→vw (hearF S N s m).1 m.li=vw s m.li)∧
  (tb m.kd (vw s m.li).1≠10→tb m.kd (vw s m.li).1≠11→vw (hearF S N s m).1 m.li=(tb m.kd (vw s m.li).1,Yg m (Qn s.1 m.li) (tb m.kd (vw s m.li).1)))):=by
 unfold Go.Proofs.YtadeoflkppiflaaGreatDoor.hearF
 have e:(Qn s.1 m.li).st=(vw s m.li).1:=rfl
 rw [e,if_pos hg,if_neg ht]
 have hle:=tb_le m.kd (vw s m.li).1
 unfold Qbz
 by_cases h10:tb m.kd (vw s m.li).1=10
 ·rw [if_pos h10]
  obtain ⟨a,b⟩:=h.vwDrop m.li
  exact ⟨h.drop _,rfl,b,fun _=>a,fun h11=>by omega,fun h11=>absurd h10 h11⟩
 ·rw [if_neg h10]
  by_cases h11:tb m.kd (vw s m.li).1=11
  ·rw [if_pos h11]
   exact ⟨h,rfl,fun _ _=>rfl,fun h=>absurd h h10,fun _=>rfl,fun _ h=>absurd h11 h⟩
  ·rw [if_neg h11]
   have h14:m.kd≠14:=by intro h;apply h11;rw [h];rfl
   obtain ⟨h0,_,_,hd⟩:=h.line (li:=m.li) (tb_line ht h14)
   obtain ⟨a,b⟩:=h.vwSet h0 (by omega:1≤tb m.kd (vw s m.li).1) (by omega) (.inl hd) (Yg m (Qn s.1 m.li) (tb m.kd (vw s m.li).1)) (Qcq _ _ _)
   exact ⟨h.set hn _ _ (by omega),rfl,b,fun h=>absurd h h10,fun h=>absurd h h11,fun _ _=>a⟩
end
end
section
def Gp (e:En):Prop:=e.ow= -1∨(isC e.ow=true∧e.sh=0#8)
def Wp (e:En):Prop:=isC e.by_=true∧∀k:Nat,k<8→hasM e.wa k=true→hasM e.sh k=true∨e.ow=(k:Int)
def Bp (e:En):Prop:=(e.bu=0∧e.by_=0∧e.wa=0#8)∨((e.bu=1∨e.bu=2)∧Wp e∧e.wa≠0#8)∨((e.bu=4∨e.bu=5)∧Wp e)
theorem Qas {k:Nat} (h:k<8):isC (k:Int)=true:=by simp [isC];omega
theorem Jk (e:En) {k:Nat} (hk:k<8):hasM (XH e) k=true↔hasM e.sh k=true∨e.ow=(k:Int):=by
 unfold XH
 rw [Qff,Bool.or_eq_true,Qch,Bool.and_eq_true,decide_eq_true_eq]
 constructor
 ·rintro (h|⟨_,h⟩)
  ·exact .inl h
  ·exact .inr h
 ·rintro (h|h)
  ·exact .inl h
  ·exact .inr ⟨by rw [h];exact Qas hk,h⟩
theorem sub_iff (a b:Mk):((a&&& ~~~b)==0#8)=true↔∀k:Nat,k<8→hasM a k=true→hasM b k=true:=by
 rw [zero_iff]
 constructor
 ·intro h k hk ha
  have:=h k hk
  rw [YD,ha,Bool.true_and] at this
  simpa using this
 ·intro h k hk
  rw [YD]
  cases ha:hasM a k
  ·rfl
  ·rw [h k hk ha];rfl
theorem goodWa_iff (e:En):Qau e=true↔Wp e:=by
 unfold Qau Wp
 rw [Bool.and_eq_true,sub_iff]
 constructor
 ·rintro ⟨h1,h2⟩;exact ⟨h1,fun k hk h=>(Jk e hk).1 (h2 k hk h)⟩
 ·rintro ⟨h1,h2⟩;exact ⟨h1,fun k hk h=>(Jk e hk).2 (h2 k hk h)⟩
theorem Yo {e:En} (h:e.he=true):Xz e=true↔Gp e∧Bp e:=by
 have h1:Qav e=true↔Gp e:=by simp [Qav,Gp]
 have h2:Jm e=true↔Bp e:=by
  unfold Jm Bp
  split
  ·rename_i h0
   simp only [Bool.and_eq_true,beq_iff_eq]
   constructor
   ·rintro ⟨a,b⟩;exact .inl ⟨h0,a,b⟩
   ·rintro (⟨_,a,b⟩|⟨a,_⟩|⟨a,_⟩)
    ·exact ⟨a,b⟩
    ·omega
    ·omega
  ·split
   ·rename_i h0 h3
    rw [Bool.and_eq_true,goodWa_iff,bne_iff_ne]
    constructor
    ·rintro ⟨a,b⟩;exact .inr (.inl ⟨h3,a,b⟩)
    ·rintro (⟨a,_⟩|⟨_,a,b⟩|⟨a,_⟩)
     ·omega
     ·exact ⟨a,b⟩
     ·omega
   ·split
    ·rename_i h0 h3 h4
     rw [goodWa_iff]
     constructor
     ·exact fun a=>.inr (.inr ⟨h4,a⟩)
     ·rintro (⟨a,_⟩|⟨a,_⟩|⟨_,a⟩)
      ·omega
      ·omega
      ·exact a
    ·rename_i h0 h3 h4
     constructor
     ·intro h;cases h
     ·rintro (⟨a,_⟩|⟨a,_⟩|⟨a,_⟩)<;>omega
 unfold Xz
 rw [if_pos h,Bool.and_eq_true,h1,h2]
theorem bits_zero (c:Int) (h:isC c=true):bitM c≠0#8:=by
 have:=bit_ne0 c
 rw [h] at this
 simpa using this
theorem has_self {c:Int} (h:isC c=true):hasM (bitM c) c=true:=by rw [Qch,h];simp
def okS (a:En) (s:Sd):Prop:=((s.m.kd=9∨s.m.kd=10)→a.ow=s.to∧s.m.l=a.l)∧(s.m.kd=8→hasM a.sh s.to=true∧s.m.l=a.l)∧((s.m.kd=12∨s.m.kd=13)→hasM a.wa s.to=true)
def Fit7 (r:En×List Sd):Prop:=r.1.he=true∧Xz r.1=true∧∀s∈r.2,okS r.1 s
theorem Qfp {s:Mk} {m:Ms} {x:Sd} (h:x∈Xf s m):hasM s x.to=true∧x.m=m:=by
 unfold Xf at h
 obtain ⟨c,hc,rfl⟩:=List.mem_map.1 h
 exact ⟨(Qd7 s c).1 hc,rfl⟩
theorem Qfy {e:En} (hh:e.he=true) (hg:Gp e) (c:Int) (hc:isC c=true) (m:Ms) (o:Mk) (kd:Int) (hkd:kd=12∨kd=13) (ho:∀k:Nat,k<8→hasM o k=true→hasM e.sh k=true∨e.ow=(k:Int)) (hk:m.kd=4∨m.kd=5∨((m.kd=1∨m.kd=2)∧o≠0#8)):Fit7 (Y4 e c m o kd):=by
 have hg':Gp (Y4 e c m o kd).1:=hg
 have hw:Wp (Y4 e c m o kd).1:=⟨hc,ho⟩
 refine ⟨hh,(Yo (e:=(Y4 e c m o kd).1) hh).2 ⟨hg',?_⟩,?_⟩
 ·rcases hk with h|h|⟨h,h2⟩
  ·exact .inr (.inr ⟨.inl h,hw⟩)
  ·exact .inr (.inr ⟨.inr h,hw⟩)
  ·exact .inr (.inl ⟨h,hw,h2⟩)
 ·intro s hs
  obtain ⟨h1,h2⟩:=Qfp (show s∈Xf o (ms4 kd m.li false false) from hs)
  have h3:s.m.kd=kd:=by rw [h2];rfl
  refine ⟨fun h=>?_,fun h=>?_,fun _=>h1⟩<;>omega
theorem Qgy {e:En} (hh:e.he=true) (hb:e.bu=0∧e.by_=0∧e.wa=0#8) (c:Int) (hc:isC c=true) (kd li:Int) (hkd:kd=9∨kd=10):Fit7 (YA e c kd li):=by
 refine ⟨hh,(Yo (e:=(YA e c kd li).1) hh).2 ⟨.inr ⟨hc,rfl⟩,.inl hb⟩,?_⟩
 intro s hs
 rw [show (YA e c kd li).2=Xf (bitM c) (ms5 kd li e.l e.h) from rfl,YB hc] at hs
 obtain rfl:s=⟨c,ms5 kd li e.l e.h⟩:=by simpa using hs
 refine ⟨fun _=>⟨rfl,rfl⟩,fun h=>?_,fun h=>?_⟩
 ·have:kd=8:=h
  omega
 ·have:kd=12∨kd=13:=h
  omega
theorem fit_shared {e:En} (hh:e.he=true) (hg:e.ow= -1) (hb:e.bu=0∧e.by_=0∧e.wa=0#8) (c:Int) (hc:isC c=true) (li:Int):Fit7 (Yp e c li):=by
 refine ⟨hh,(Yo (e:=(Yp e c li).1) hh).2 ⟨.inl hg,.inl hb⟩,?_⟩
 intro s hs
 rw [show (Yp e c li).2=Xf (bitM c) (ms5 8 li e.l e.h) from rfl,YB hc] at hs
 obtain rfl:s=⟨c,ms5 8 li e.l e.h⟩:=by simpa using hs
 refine ⟨fun h=>?_,fun _=>⟨?_,rfl⟩,fun h=>?_⟩
 ·have:(8:Int)=9∨(8:Int)=10:=h
  omega
 ·show hasM (e.sh|||bitM c) c=true
  rw [Qff,has_self hc,Bool.or_true]
 ·have:(8:Int)=12∨(8:Int)=13:=h
  omega
theorem Qfv {e:En}:∀k:Nat,k<8→hasM (bitM e.ow) k=true→hasM e.sh k=true∨e.ow=(k:Int):=by
 intro k _ h
 rw [Qch,Bool.and_eq_true,decide_eq_true_eq] at h
 exact .inr h.2
theorem busy0 {e:En} (hh:e.he=true) (g:Xz e=true) (hb:e.bu=0):Gp e∧e.bu=0∧e.by_=0∧e.wa=0#8:=by
 obtain ⟨h1,h2⟩:=(Yo hh).1 g
 refine ⟨h1,?_⟩
 rcases h2 with h|⟨h,_⟩|⟨h,_⟩
 ·exact h
 ·omega
 ·omega
theorem ask_fit {e:En} {c:Int} {m:Ms} (g:Xz e=true) (hh:e.he=true) (hb:e.bu=0) (hc:isC c=true) (hm:Yc m.kd=true):Fit7 (XX e c m):=by
 obtain ⟨hg,hb'⟩:=busy0 hh g hb
 have hk:m.kd=1∨m.kd=2∨m.kd=3∨m.kd=4∨m.kd=5:=by simp [Yc] at hm;omega
 rcases hk with k|k|k|k|k
 ·rw [show XX e c m=Qal e c m by simp [XX,k]]
  unfold Qal
  split
  ·rename_i h
   refine Qfy hh hg c hc m _ 13 (.inr rfl) Qfv (.inr (.inr ⟨.inl k,?_⟩))
   rcases hg with h1|h1
   ·exact absurd h1 h.1
   ·exact bits_zero _ h1.1
  ·rename_i h
   split
   ·exact Qgy hh hb' c hc 9 m.li (.inl rfl)
   ·rename_i hs
    refine fit_shared hh ?_ hb' c hc m.li
    rcases hg with h1|h1
    ·exact h1
    ·exact absurd h1.2 hs
 ·rw [show XX e c m=Qb6 e c m by simp [XX,k]]
  unfold Qb6
  split
  ·exact Qgy hh hb' c hc 10 m.li (.inr rfl)
  ·rename_i h
   refine Qfy hh hg c hc m _ 12 (.inl rfl) ?_ (.inr (.inr ⟨.inr k,h⟩))
   intro j hj hj2
   rw [YD,Bool.and_eq_true] at hj2
   exact (Jk e hj).1 hj2.1
 ·rw [show XX e c m=putE e c m by simp [XX,k]]
  have hw:∀x:En,x.he=true→Gp x→(x.bu=0∧x.by_=0∧x.wa=0#8)→(Zx x c).he=true∧Xz (Zx x c)=true:=by
   intro x h1 h2 h3
   have h4:(Zx x c).he=true:=by unfold Zx;split<;>exact h1
   refine ⟨h4,(Yo h4).2 ⟨?_,?_⟩⟩
   ·unfold Zx Gp
    split
    ·exact .inl rfl
    ·rcases h2 with h|⟨h,h'⟩
     ·exact .inl h
     ·right
      refine ⟨h,?_⟩
      show x.sh&&& ~~~(bitM c)=0#8
      rw [h']
      apply mk_ext;intro k _;rw [YD,Xa];rfl
   ·left
    unfold Zx
    split<;>exact h3
  unfold putE
  have h5:(Zx (if e.ow=c then ZD e m else e) c).he=true∧Xz (Zx (if e.ow=c then ZD e m else e) c)=true:=by
   split
   ·refine hw _ ?_ ?_ ?_
    ·unfold ZD;split<;>exact hh
    ·unfold ZD;split<;>exact hg
    ·unfold ZD;split<;>exact hb'
   ·exact hw e hh hg hb'
  refine ⟨h5.1,h5.2,?_⟩
  intro s hs
  obtain ⟨_,h2⟩:=Qfp (show s∈Xf (bitM c) (ms4 11 m.li false false) from hs)
  have h3:s.m.kd=11:=by rw [h2];rfl
  refine ⟨fun h=>?_,fun h=>?_,fun h=>?_⟩<;>omega
 ·rw [show XX e c m=Qdb e c m by simp [XX,k]]
  exact Qfy hh hg c hc m _ 13 (.inr rfl) Qfv (.inl k)
 ·rw [show XX e c m=wipeE e c m by simp [XX,k]]
  exact Qfy hh hg c hc m _ 12 (.inl rfl) (fun j hj h=>(Jk e hj).1 h) (.inr (.inl k))
theorem Qdn (e:En) (m:Ms):(ZD e m).he=e.he∧(ZD e m).ow=e.ow∧(ZD e m).sh=e.sh∧(ZD e m).bu=e.bu∧(ZD e m).by_=e.by_∧(ZD e m).wa=e.wa:=by
 unfold ZD;split<;>exact ⟨rfl,rfl,rfl,rfl,rfl,rfl⟩
theorem Qa6 (e:En) (c:Int) (m:Ms):(Zn e c m).he=e.he∧(Zn e c m).ow=(if e.ow=c then -1 else e.ow)∧(Zn e c m).sh=(if m.ke=true then (e.sh&&& ~~~(bitM c))|||bitM c else e.sh&&& ~~~(bitM c))∧(Zn e c m).bu=e.bu∧(Zn e c m).by_=e.by_∧(Zn e c m).wa=e.wa&&& ~~~(bitM c):=by
 obtain ⟨h1,h2,h3,h4,h5,h6⟩:=Qdn e m
 have hw:∀x:En,(Zx x c).he=x.he∧(Zx x c).ow=(if x.ow=c then -1 else x.ow)∧(Zx x c).sh=x.sh&&& ~~~(bitM c)∧(Zx x c).bu=x.bu∧(Zx x c).by_=x.by_∧(Zx x c).wa=x.wa:=by
  intro x;unfold Zx;split<;>exact ⟨rfl,by simp [*,En.setOw,En.setSh],rfl,rfl,rfl,rfl⟩
 obtain ⟨a1,a2,a3,a4,a5,a6⟩:=hw (ZD e m)
 unfold Zn
 dsimp only
 split
 ·refine ⟨a1.trans h1,(show (Zx (ZD e m) c).ow=_ from a2).trans (by rw [h2]),?_,a4.trans h4,a5.trans h5,?_⟩
  ·show (Zx (ZD e m) c).sh|||bitM c=_
   rw [a3,h3]
  ·show (Zx (ZD e m) c).wa&&& ~~~(bitM c)=_
   rw [a6,h6]
 ·refine ⟨a1.trans h1,(show (Zx (ZD e m) c).ow=_ from a2).trans (by rw [h2]),?_,a4.trans h4,a5.trans h5,?_⟩
  ·show (Zx (ZD e m) c).sh=_
   rw [a3,h3]
  ·show (Zx (ZD e m) c).wa&&& ~~~(bitM c)=_
   rw [a6,h6]
theorem Qf4 {e:En} {c:Int} (g:Xz e=true) (h:hasM e.wa c=true):e.he=true:=by
 cases hh:e.he
 ·have:e=enE:=by simpa [Xz,hh] using g
  subst this
  have:hasM (0#8) c=true:=h
  rw [Xa] at this;cases this
 ·rfl
theorem Qep {e:En} {c:Int} {m:Ms} (g:Xz e=true) (h:hasM e.wa c=true):
 (Zn e c m).ow= -1∧Wp (Zn e c m)∧((Zn e c m).bu=1∨(Zn e c m).bu=2∨(Zn e c m).bu=4∨(Zn e c m).bu=5):=by
 have hh:=Qf4 g h
 obtain ⟨hg,hb⟩:=(Yo hh).1 g
 obtain ⟨a1,a2,a3,a4,a5,a6⟩:=Qa6 e c m
 have hw:Wp e∧(e.bu=1∨e.bu=2∨e.bu=4∨e.bu=5):=by
  rcases hb with ⟨_,_,h0⟩|⟨h0,h1,_⟩|⟨h0,h1⟩
  ·rw [h0,Xa] at h;cases h
  ·exact ⟨h1,by omega⟩
  ·exact ⟨h1,by omega⟩
 have hcc:isC c=true:=by
  cases hc:isC c
  ·rw [Qdj hc] at h;cases h
  ·rfl
 obtain ⟨k,hk,rfl⟩:=Y6 hcc
 have how:e.ow=(k:Int)∨e.ow= -1:=by
  rcases hw.1.2 k hk h with h1|h1
  ·rcases hg with h2|⟨_,h2⟩
   ·exact .inr h2
   ·rw [h2,Xa] at h1;cases h1
  ·exact .inl h1
 refine ⟨?_,⟨by rw [a5];exact hw.1.1,?_⟩,by rw [a4];exact hw.2⟩
 ·rw [a2]
  split
  ·rfl
  ·rcases how with h1|h1
   ·contradiction
   ·exact h1
 ·intro j hj hj2
  rw [a6,YD,Bool.and_eq_true,Bool.not_eq_true',Qch,hcc,Bool.true_and,decide_eq_false_iff_not] at hj2
  left
  have hsh:hasM e.sh j=true:=by
   rcases hw.1.2 j hj hj2.1 with h1|h1
   ·exact h1
   ·exfalso
    rcases how with h2|h2
    ·exact hj2.2 (h2.symm.trans h1)
    ·omega
  rw [a3]
  have hx:hasM (e.sh&&& ~~~(bitM (k:Int))) j=true:=by
   rw [YD,hsh,Qch,hcc,Bool.true_and,Bool.true_and,Bool.not_eq_true',decide_eq_false_iff_not];exact hj2.2
  split
  ·rw [Qff,hx];rfl
  ·exact hx
theorem ans_fit {e:En} {c:Int} {m:Ms} (g:Xz e=true) (h:hasM e.wa c=true):Fit7 (if (Zn e c m).wa≠0#8 then (Zn e c m,[]) else X4 (Zn e c m) m.li):=by
 have hh:=Qf4 g h
 obtain ⟨a1,_⟩:=Qa6 e c m
 obtain ⟨h1,h2,h3⟩:=Qep (m:=m) g h
 have hh':(Zn e c m).he=true:=a1.trans hh
 generalize Zn e c m=a at *
 split
 ·rename_i hw
  refine ⟨hh',(Yo hh').2 ⟨.inl h1,?_⟩,by simp⟩
  rcases h3 with h3|h3|h3|h3
  ·exact .inr (.inl ⟨.inl h3,h2,hw⟩)
  ·exact .inr (.inl ⟨.inr h3,h2,hw⟩)
  ·exact .inr (.inr ⟨.inl h3,h2⟩)
  ·exact .inr (.inr ⟨.inr h3,h2⟩)
 ·unfold X4
  split
  ·exact fit_shared (e:=XG a) hh' h1 ⟨rfl,rfl,rfl⟩ a.by_ h2.1 m.li
  ·split
   ·exact Qgy (e:=XG a) hh' ⟨rfl,rfl,rfl⟩ a.by_ h2.1 10 m.li (.inr rfl)
   ·refine ⟨hh',(Yo hh').2 ⟨.inl h1,.inr (.inr ⟨by omega,h2⟩)⟩,by simp⟩
theorem push_fit {e:En} (g:Yb e=true):Fit7 ((XG e).setDi false,Xf (bitM e.by_) (ms4 14 0 false false)):=by
 have hg:Xz e=true:=by simp only [Yb,Bool.and_eq_true] at g;exact g.1.1
 have hb:e.bu=4∨e.bu=5:=by simpa [Yb,Bool.and_eq_true] using (show (e.bu==4||e.bu==5)=true by simp only [Yb,Bool.and_eq_true] at g;exact g.1.2)
 have hh:e.he=true:=by
  cases hh:e.he
  ·have:e=enE:=by simpa [Xz,hh] using hg
   subst this
   have:(0:Int)=4∨(0:Int)=5:=hb
   omega
  ·rfl
 obtain ⟨h1,_⟩:=(Yo hh).1 hg
 refine ⟨hh,(Yo (e:=(XG e).setDi false) hh).2 ⟨h1,.inl ⟨rfl,rfl,rfl⟩⟩,?_⟩
 intro s hs
 obtain ⟨_,h2⟩:=Qfp (show s∈Xf (bitM e.by_) (ms4 14 0 false false) from hs)
 have h3:s.m.kd=14:=by rw [h2];rfl
 refine ⟨fun h=>?_,fun h=>?_,fun h=>?_⟩<;>omega
end
section
inductive AOkN (li:Int):Nat→List Int→Nat→List Int→List Ms→Prop
 |askS (l l':List Int):AOkN li 0 l 4 l' [ms4 1 li false false]
 |askM (l l':List Int):AOkN li 0 l 5 l' [ms4 2 li false false]
 |up (l:List Int):AOkN li 1 l 6 l [ms4 2 li false false]
 |outS (l:List Int):AOkN li 1 l 7 l [ms4 3 li false false]
 |outE (l:List Int):AOkN li 2 l 7 l [ms4 3 li false false]
 |outM (l:List Int) (m:Ms) (hk:m.kd=3) (hl:m.li=li) (hd:m.di=true) (hke:m.ke=false) (hm:m.l=l):AOkN li 3 l 9 l [m]
theorem AOk.nat {li:Int} {st st':Int} {l l':List Int} {ms:List Ms} (h:AOk li st l st' l' ms):AOkN li st.toNat l st'.toNat l' ms:=by
 cases h
 ·exact .askS _ _
 ·exact .askM _ _
 ·exact .up _
 ·exact .outS _
 ·exact .outE _
 ·rename_i m hk hl hd hke hm
  exact .outM _ m hk hl hd hke hm
inductive Bs (cur el:List Int):Bool→Bool→Nat→Nat→List Int→List Ms→List Ms→Prop
 |i (l:List Int):Bs cur el false false 0 0 l [] []
 |s1 (l:List Int) (m:Ms) (hm:m.kd=1):Bs cur el false false 0 4 l [m] []
 |s2 (l:List Int):Bs cur el false false 1 4 l [] []
 |m1 (l:List Int) (m:Ms) (hm:m.kd=2):Bs cur el false false 0 5 l [m] []
 |m2 (l:List Int):Bs cur el false false 2 5 l [] []
 |p7 (l:List Int) (a:Ms) (ha:a.kd=11):Bs cur el false false 0 7 l [] [a]
 |p8 (l:List Int) (a:Ms) (ha:a.kd=11):Bs cur el false false 0 8 l [] [a]
 |p9 (l:List Int) (a:Ms) (ha:a.kd=11):Bs cur el false false 0 9 l [] [a]
 |gn (l:List Int) (m:Ms) (hm:m.kd=3):Bs cur el false false 0 8 l [m] []
 |rS (l:List Int) (a:Ms) (ha:a.kd=8) (hl:a.l=cur):Bs cur el false true 0 4 l [] [a]
 |r1:Bs cur el false true 0 1 cur [] []
 |rU1 (m:Ms) (hm:m.kd=2):Bs cur el false true 0 6 cur [m] []
 |rU2:Bs cur el false true 2 6 cur [] []
 |rO (l:List Int) (m:Ms) (hm:m.kd=3) (hd:m.di=false):Bs cur el false true 0 7 l [m] []
 |oE (l:List Int) (a:Ms) (ha:a.kd=9) (hl:a.l=cur) (he:el=cur):Bs cur el true false 0 4 l [] [a]
 |oM (l:List Int) (a:Ms) (ha:a.kd=10) (hl:a.l=cur) (he:el=cur):Bs cur el true false 0 5 l [] [a]
 |oU (a:Ms) (ha:a.kd=10) (hl:a.l=cur) (he:el=cur):Bs cur el true false 0 6 cur [] [a]
 |o2 (he:el=cur):Bs cur el true false 0 2 cur [] []
 |o3:Bs cur el true false 0 3 cur [] []
 |oO (l:List Int) (m:Ms) (hm:m.kd=3) (hd:m.di=false) (he:el=cur):Bs cur el true false 0 7 l [m] []
 |oD (m:Ms) (hm:m.kd=3) (hd:m.di=true) (hl:m.l=cur):Bs cur el true false 0 9 cur [m] []
inductive InU:Nat→List Ms→Prop
 |z:InU 0 []
 |s (m:Ms) (hm:m.kd=1):InU 4 [m]
 |m (m:Ms) (hm:m.kd=2):InU 5 [m]
 |g (m:Ms) (hm:m.kd=3):InU 8 [m]
inductive KeU (cur:List Int):Nat→List Int→List Ms→Prop
 |r:KeU cur 1 cur []
 |u (m:Ms) (hm:m.kd=2):KeU cur 6 cur [m]
 |o (l:List Int) (m:Ms) (hm:m.kd=3) (hd:m.di=false):KeU cur 7 l [m]
inductive Ak (cur el:List Int) (a:Ms):Bool→Bool→Nat→List Int→List Ms→Prop
 |inv (ow sh:Bool) (st:Nat) (l:List Int) (U:List Ms) (hk:a.kd=6) (hke:a.ke=false) (ho:(ow||sh)=true) (hd:a.di=true→ow=true∧a.l=cur) (hc:a.di=false→ow=true→el=cur) (hU:InU st U):Ak cur el a ow sh st l U
 |dnK (st:Nat) (l:List Int) (U:List Ms) (hk:a.kd=7) (hke:a.ke=true) (hd:a.di=true→a.l=cur) (hc:a.di=false→el=cur) (hU:KeU cur st l U):Ak cur el a true false st l U
 |dnG (l:List Int) (m:Ms) (hk:a.kd=7) (hke:a.ke=false) (hd:a.di=true→a.l=cur) (hc:a.di=false→el=cur) (hm:m.kd=3):Ak cur el a true false 8 l [m]
inductive Rel (cur el:List Int) (kt:Int):Bool→Bool→Bool→Nat→Nat→List Int→List Ms→List Ms→List Ms→Prop
 |base {ow sh:Bool} {b st:Nat} {l:List Int} {U D:List Ms} (h:Bs cur el ow sh b st l U D):Rel cur el kt ow sh false b st l U [] D
 |told {ow sh:Bool} {st:Nat} {l:List Int} {U D:List Ms} (a:Ms) (h:Bs cur el ow sh 0 st l U D) (ha:a.kd=kt) (ho:(ow||sh)=true) (h13:kt=13→ow=true):Rel cur el kt ow sh true 0 st l U [] (D++[a])
 |ack {ow sh:Bool} {st:Nat} {l:List Int} {U:List Ms} (a:Ms) (h:Ak cur el a ow sh st l U) (hk:kt=12→a.ke=false):Rel cur el kt ow sh true 0 st l U [a] []
section
variable {cur el:List Int} {kt:Int} {ow sh w:Bool} {b st st':Nat} {l l':List Int} {U N D ms:List Ms}
theorem Bs.ask {li:Int} (h:Bs cur el ow sh b st l U D) (a:AOkN li st l st' l' ms):Bs cur el ow sh b st' l' (U++ms) D:=by
 cases a with
 |askS=>cases h;exact .s1 _ _ rfl
 |askM=>cases h;exact .m1 _ _ rfl
 |up=>cases h;exact .rU1 _ rfl
 |outS=>cases h;exact .rO _ _ rfl rfl
 |outE=>cases h;exact .oO _ _ rfl rfl (by assumption)
 |outM l m hk hl hd hke hm=>cases h;exact .oD _ hk hd hm
theorem Ak.ask {li:Int} {m:Ms} (h:Ak cur el m ow sh st l U) (a:AOkN li st l st' l' ms):Ak cur el m ow sh st' l' (U++ms):=by
 cases h with
 |inv ow sh st l U hk hke ho hd hc hU=>
  refine .inv _ _ _ _ _ hk hke ho hd hc ?_
  cases a with
  |askS=>cases hU;exact .s _ rfl
  |askM=>cases hU;exact .m _ rfl
  |up=>cases hU
  |outS=>cases hU
  |outE=>cases hU
  |outM=>cases hU
 |dnK st l U hk hke hd hc hU=>
  refine .dnK _ _ _ hk hke hd hc ?_
  cases a with
  |askS=>cases hU
  |askM=>cases hU
  |up=>cases hU;exact .u _ rfl
  |outS=>cases hU;exact .o _ _ rfl rfl
  |outE=>cases hU
  |outM=>cases hU
 |dnG=>cases a
theorem Rel.ask {li:Int} (h:Rel cur el kt ow sh w b st l U N D) (a:AOkN li st l st' l' ms):Rel cur el kt ow sh w b st' l' (U++ms) N D:=by
 cases h with
 |base h=>exact .base (h.ask a)
 |told m h ha ho h13=>exact .told m (h.ask a) ha ho h13
 |ack m h hk=>exact .ack m (h.ask a) hk
theorem Bs.write (h:Bs cur el ow sh b st l U D) (hs:st=2∨st=3) (cur':List Int):Bs cur' el ow sh b 3 cur' U D∧l=cur∧ow=true:=by
 rcases hs with rfl|rfl<;>cases h<;>exact ⟨.o3,rfl,rfl⟩
theorem Rel.write (h:Rel cur el kt ow sh w b st l U N D) (hs:st=2∨st=3) (cur':List Int):Rel cur' el kt ow sh w b 3 cur' U N D∧l=cur∧ow=true:=by
 cases h with
 |base h=>exact ⟨.base (h.write hs cur').1,(h.write hs cur').2⟩
 |told m h ha ho h13=>exact ⟨.told m (h.write hs cur').1 ha ho h13,(h.write hs cur').2⟩
 |ack m h=>
  exfalso
  cases h with
  |inv ow sh st l U hk hke ho hd hc hU=>cases hU<;>omega
  |dnK st l U hk hke hd hc hU=>cases hU<;>omega
  |dnG=>omega
theorem Bs.anyEl (h:Bs cur el false sh b st l U D) (el':List Int):Bs cur el' false sh b st l U D:=by
 cases h
 all_goals constructor<;>assumption
theorem Rel.anyEl (h:Rel cur el kt false sh w b st l U N D) (el':List Int):Rel cur el' kt false sh w b st l U N D:=by
 cases h with
 |base h=>exact .base (h.anyEl el')
 |told m h ha ho h13=>exact .told m (h.anyEl el') ha ho h13
 |ack m h hk=>
  refine .ack m ?_ hk
  cases h with
  |inv ow sh st l U hk hke ho hd hc hU=>exact .inv _ _ _ _ _ hk hke ho hd (fun _ h=>by cases h) hU
theorem Bs.none (h:Bs cur el false false b st l U D) (cur' el':List Int):Bs cur' el' false false b st l U D:=by
 cases h
 all_goals constructor<;>assumption
theorem Rel.none (h:Rel cur el kt false false w b st l U N D) (cur' el':List Int) (kt':Int):w=false∧N=[]∧Rel cur' el' kt' false false false b st l U [] D:=by
 cases h with
 |base h=>exact ⟨rfl,rfl,.base (h.none cur' el')⟩
 |told m h ha ho h13=>cases ho
 |ack m h=>
  cases h with
  |inv ow sh st l U hk hke ho hd hc hU=>cases ho
theorem Rel.anyKt (h:Rel cur el kt ow sh false b st l U N D) (kt':Int):Rel cur el kt' ow sh false b st l U N D∧N=[]:=by
 cases h with
 |base h=>exact ⟨.base h,rfl⟩
theorem Rel.tell (h:Rel cur el kt ow sh false 0 st l U N D) (kt':Int) (a:Ms) (ha:a.kd=kt') (ho:(ow||sh)=true) (h13:kt'=13→ow=true):Rel cur el kt' ow sh true 0 st l U N (D++[a]):=by
 cases h with
 |base h=>exact .told a h ha ho h13
theorem Rel.getS {m:Ms} {V:List Ms} (h:Rel cur el kt ow sh false b st l (m::V) N D) (hm:m.kd=1):ow=false∧sh=false∧(∀el' kt',Rel cur el' kt' false false false 1 st l V N D)∧
 (∀kt' (a:Ms),a.kd=8→a.l=cur→Rel cur el kt' false true false 0 st l V N (D++[a]))∧(∀kt' (a:Ms),a.kd=9→a.l=cur→el=cur→Rel cur el kt' true false false 0 st l V N (D++[a])):=by
 cases h with
 |base h=>
  cases h with
  |s1 l m hm=>exact ⟨rfl,rfl,fun _ _=>.base (.s2 _),fun _ a h1 h2=>.base (.rS _ a h1 h2),fun _ a h1 h2 h3=>.base (.oE _ a h1 h2 h3)⟩
  |m1 l m hm=>omega
  |gn l m hm=>omega
  |rU1 m hm=>omega
  |rO l m hm hd=>omega
  |oO l m hm hd he=>omega
  |oD m hm hd hl=>omega
theorem Rel.getM {m:Ms} {V:List Ms} (h:Rel cur el kt ow sh false b st l (m::V) N D) (hm:m.kd=2):ow=false∧(∀el' kt',Rel cur el' kt' false sh false 2 st l V N D)∧
 (∀kt' (a:Ms),a.kd=10→a.l=cur→el=cur→Rel cur el kt' true false false 0 st l V N (D++[a])):=by
 cases h with
 |base h=>
  cases h with
  |s1 l m hm=>omega
  |m1 l m hm=>exact ⟨rfl,fun _ _=>.base (.m2 _),fun _ a h1 h2 h3=>.base (.oM _ a h1 h2 h3)⟩
  |gn l m hm=>omega
  |rU1 m hm=>exact ⟨rfl,fun _ _=>.base .rU2,fun _ a h1 h2 h3=>.base (.oU a h1 h2 h3)⟩
  |rO l m hm hd=>omega
  |oO l m hm hd he=>omega
  |oD m hm hd hl=>omega
theorem Rel.put {m:Ms} {V:List Ms} (h:Rel cur el kt ow sh false b st l (m::V) N D) (hm:m.kd=3):(ow=true→(m.di=true→m.l=cur)∧(m.di=false→el=cur))∧
 (∀cur' el' kt' (a:Ms),a.kd=11→Rel cur' el' kt' false false false 0 st l V N (D++[a])):=by
 cases h with
 |base h=>
  cases h with
  |s1 l m hm=>omega
  |m1 l m hm=>omega
  |gn l m hm=>exact ⟨fun h=>(by cases h),fun _ _ _ a h1=>.base (.p8 _ a h1)⟩
  |rU1 m hm=>omega
  |rO l m hm hd=>exact ⟨fun h=>(by cases h),fun _ _ _ a h1=>.base (.p7 _ a h1)⟩
  |oO l m hm hd he=>exact ⟨fun _=>⟨fun h=>absurd (hd.symm.trans h) (by decide),fun _=>he⟩,fun _ _ _ a h1=>.base (.p7 _ a h1)⟩
  |oD m hm hd hl=>exact ⟨fun _=>⟨fun _=>hl,fun h=>absurd (hd.symm.trans h) (by decide)⟩,fun _ _ _ a h1=>.base (.p9 _ a h1)⟩
theorem Rel.settleS (h:Rel cur el kt ow sh w 1 st l U N D):w=false∧ow=false∧sh=false∧∀kt' (a:Ms),a.kd=8→a.l=cur→∀el',Rel cur el' kt' false true false 0 st l U N (D++[a]):=by
 cases h with
 |base h=>
  cases h with
  |s2 l=>exact ⟨rfl,rfl,rfl,fun _ a h1 h2 _=>.base (.rS _ a h1 h2)⟩
theorem Rel.settleM (h:Rel cur el kt ow sh w 2 st l U N D):w=false∧ow=false∧∀kt' (a:Ms),a.kd=10→a.l=cur→∀el',el'=cur→Rel cur el' kt' true false false 0 st l U N (D++[a]):=by
 cases h with
 |base h=>
  cases h with
  |m2 l=>exact ⟨rfl,rfl,fun _ a h1 h2 _ h3=>.base (.oM _ a h1 h2 h3)⟩
  |rU2=>exact ⟨rfl,rfl,fun _ a h1 h2 _ h3=>.base (.oU a h1 h2 h3)⟩
theorem Ak.done {a:Ms} (h:Ak cur el a ow sh st l U) (el':List Int):Bs cur el' false a.ke 0 st l U []∧(ow=true→(a.di=true→a.l=cur)∧(a.di=false→el=cur))∧(ow=false→a.di=false):=by
 cases h with
 |inv ow sh st l U hk hke ho hd hc hU=>
  refine ⟨?_,fun h=>⟨fun h1=>(hd h1).2,fun h1=>hc h1 h⟩,fun h=>?_⟩
  ·rw [hke]
   cases hU with
   |z=>exact .i _
   |s m hm=>exact .s1 _ _ hm
   |m m hm=>exact .m1 _ _ hm
   |g m hm=>exact .gn _ _ hm
  ·cases h1:a.di
   ·rfl
   ·have:=(hd h1).1;rw [h] at this;cases this
 |dnK st l U hk hke hd hc hU=>
  refine ⟨?_,fun h=>⟨hd,hc⟩,fun h=>by cases h⟩
  rw [hke]
  cases hU with
  |r=>exact .r1
  |u m hm=>exact .rU1 _ hm
  |o l m hm hd=>exact .rO _ _ hm hd
 |dnG l m hk hke hd hc hm=>exact ⟨by rw [hke];exact .gn _ _ hm,fun h=>⟨hd,hc⟩,fun h=>by cases h⟩
theorem Rel.answer {a:Ms} {V:List Ms} (h:Rel cur el kt ow sh w b st l U (a::V) D):w=true∧V=[]∧b=0∧(ow||sh)=true∧(∀el' kt',Rel cur el' kt' false a.ke false 0 st l U V D)∧(ow=true→(a.di=true→a.l=cur)∧(a.di=false→el=cur))∧(ow=false→a.di=false)∧(kt=12→a.ke=false):=by
 cases h with
 |ack m h hk=>
  refine ⟨rfl,rfl,rfl,?_,fun el' _=>.base (h.done el').1,(h.done el).2.1,(h.done el).2.2,hk⟩
  cases h with
  |inv ow sh st l U hk hke ho hd hc hU=>exact ho
  |dnK=>rfl
  |dnG=>rfl
def HV (m:Ms) (x:Slt) (st':Int) (l':List Int):Prop:=
 (tb m.kd x.st=10→st'=0)∧(tb m.kd x.st=11→st'=x.st∧l'=x.l)∧(tb m.kd x.st≠10→tb m.kd x.st≠11→st'=tb m.kd x.st∧l'=Yg m x (tb m.kd x.st))
theorem HV.drop {m:Ms} {x:Slt} {st':Int} {l':List Int} (h:HV m x st' l') (ht:tb m.kd x.st=10):st'.toNat=0:=by rw [h.1 ht];rfl
theorem HV.becomes {m:Ms} {x:Slt} {st':Int} {l':List Int} (h:HV m x st' l') {n:Nat} (ht:tb m.kd x.st=(n:Int)) (hn:n<10):st'.toNat=n∧l'=Yg m x n:=by
 obtain ⟨a,b⟩:=h.2.2 (by omega) (by omega)
 rw [ht] at a b
 exact ⟨by omega,b⟩
theorem nat_of {x:Int} {n:Nat} (h0:0≤x) (h:x.toNat=n):x=(n:Int):=by omega
theorem Bs.hear {m:Ms} {V:List Ms} {x:Slt} (h0:0≤x.st) (hst:x.st.toNat=st) (h:Bs cur el ow sh b st x.l U (m::V)) {st':Int} {l':List Int} (hv:HV m x st' l'):
 tb m.kd x.st≠0∧V=[]∧Z8 m.kd x (tb m.kd x.st)=[]∧Bs cur el ow sh b st'.toNat l' U []:=by
 have hs:=nat_of h0 hst
 generalize hxl:x.l=xl at h
 cases h with
 |p7 l a ha=>
  exact Tz121
 |p8 l a ha=>
  exact Tz121
 |p9 l a ha=>
  exact Tz121
 |rS l a ha hl=>
  have ht:tb m.kd x.st=((1:Nat):Int):=by rw [ha,hs];rfl
  obtain ⟨e1,e2⟩:=hv.becomes ht (by decide)
  rw [show Yg m x ((1:Nat):Int)=cur by unfold Yg;rw [if_neg (by decide),if_neg (by omega),hl]] at e2
  rw [e1,e2,ht,ha];exact ⟨by decide,rfl,rfl,.r1⟩
 |oE l a ha hl he=>
  exact Tz57
 |oM l a ha hl he=>
  exact Tz57
 |oU a ha hl he=>
  exact Tz57
theorem Bs.gives {m:Ms} {x:Slt} (h0:0≤x.st) (hst:x.st.toNat=st) (h:Bs cur el ow sh 0 st x.l U []) (hm:m.kd=12∨m.kd=13∧ow=true) (ho:(ow||sh)=true) {st':Int} {l':List Int} (hv:HV m x st' l'):
 tb m.kd x.st≠0∧∃a,Z8 m.kd x (tb m.kd x.st)=[a]∧(m.kd=12→a.ke=false)∧Ak cur el a ow sh st'.toNat l' U:=by
 have hs:=nat_of h0 hst
 have hc:∀kd ke,x.st≠3→x.st≠9→Yf kd x ke=ms4 kd x.li false ke:=fun kd ke h1 h2=>by unfold Yf;rw [if_neg (by omega)]
 have hd:∀kd ke,x.st=3∨x.st=9→Yf kd x ke=⟨kd,x.li,true,ke,x.l,x.h⟩:=fun kd ke h1=>by unfold Yf;rw [if_pos h1]
 have hke:(Yf 6 x false).ke=false:=by unfold Yf;split<;>rfl
 rcases hm with hm|⟨hm,rfl⟩
 ·have ha:∀t,Z8 m.kd x t=[Yf 6 x false]:=fun t=>by unfold Z8;rw [if_pos hm]
  generalize hxl:x.l=xl at h
  cases h with
  |i=>cases ho
  |s1=>cases ho
  |m1=>cases ho
  |gn=>cases ho
  |r1=>
   have ht:tb m.kd x.st=10:=by rw [hm,hs];rfl
   rw [hv.drop ht]
   exact ⟨by rw [ht];decide,_,ha _,fun _=>hke,by rw [hc _ _ (by omega) (by omega)];exact .inv _ _ _ _ _ rfl rfl rfl (fun h=>by cases h) (fun _ h=>by cases h) .z⟩
  |rU1 m' hm'=>
   have ht:tb m.kd x.st=((5:Nat):Int):=by rw [hm,hs];rfl
   obtain ⟨e1,e2⟩:=hv.becomes ht (by decide)
   rw [e1]
   exact ⟨by rw [ht];decide,_,ha _,fun _=>hke,by rw [hc _ _ (by omega) (by omega)];exact .inv _ _ _ _ _ rfl rfl rfl (fun h=>by cases h) (fun _ h=>by cases h) (.m _ hm')⟩
  |rO l m' hm' hd'=>
   have ht:tb m.kd x.st=((8:Nat):Int):=by rw [hm,hs];rfl
   obtain ⟨e1,e2⟩:=hv.becomes ht (by decide)
   rw [e1]
   exact ⟨by rw [ht];decide,_,ha _,fun _=>hke,by rw [hc _ _ (by omega) (by omega)];exact .inv _ _ _ _ _ rfl rfl rfl (fun h=>by cases h) (fun _ h=>by cases h) (.g _ hm')⟩
  |o2 he=>
   have ht:tb m.kd x.st=10:=by rw [hm,hs];rfl
   rw [hv.drop ht]
   exact ⟨by rw [ht];decide,_,ha _,fun _=>hke,by rw [hc _ _ (by omega) (by omega)];exact .inv _ _ _ _ _ rfl rfl rfl (fun h=>by cases h) (fun _ _=>he) .z⟩
  |o3=>
   have ht:tb m.kd x.st=10:=by rw [hm,hs];rfl
   rw [hv.drop ht]
   exact ⟨by rw [ht];decide,_,ha _,fun _=>hke,by rw [hd _ _ (by omega)];exact .inv _ _ _ _ _ rfl rfl rfl (fun _=>⟨rfl,hxl⟩) (fun h=>by cases h) .z⟩
  |oO l m' hm' hd' he=>
   have ht:tb m.kd x.st=((8:Nat):Int):=by rw [hm,hs];rfl
   obtain ⟨e1,e2⟩:=hv.becomes ht (by decide)
   rw [e1]
   exact ⟨by rw [ht];decide,_,ha _,fun _=>hke,by rw [hc _ _ (by omega) (by omega)];exact .inv _ _ _ _ _ rfl rfl rfl (fun h=>by cases h) (fun _ _=>he) (.g _ hm')⟩
  |oD m' hm' hd' hl'=>
   have ht:tb m.kd x.st=((8:Nat):Int):=by rw [hm,hs];rfl
   obtain ⟨e1,e2⟩:=hv.becomes ht (by decide)
   rw [e1]
   exact ⟨by rw [ht];decide,_,ha _,fun _=>hke,by rw [hd _ _ (by omega)];exact .inv _ _ _ _ _ rfl rfl rfl (fun _=>⟨rfl,hxl⟩) (fun h=>by cases h) (.g _ hm')⟩
 ·have ha:∀t,Z8 m.kd x t=[Yf 7 x (t==1)]:=fun t=>by unfold Z8;rw [if_neg (by omega),if_pos hm]
  generalize hxl:x.l=xl at h
  cases h with
  |o2 he=>
   have ht:tb m.kd x.st=((1:Nat):Int):=by rw [hm,hs];rfl
   obtain ⟨e1,e2⟩:=hv.becomes ht (by decide)
   rw [show Yg m x ((1:Nat):Int)=cur by unfold Yg;rw [if_neg (by decide),if_pos hm,hxl]] at e2
   rw [e1,e2]
   exact ⟨by rw [ht];decide,_,ha _,fun h=>absurd (hm.symm.trans h) (by decide),by rw [ht,hc _ _ (by omega) (by omega)];exact .dnK _ _ _ rfl rfl (fun h=>by cases h) (fun _=>he) .r⟩
  |o3=>
   have ht:tb m.kd x.st=((1:Nat):Int):=by rw [hm,hs];rfl
   obtain ⟨e1,e2⟩:=hv.becomes ht (by decide)
   rw [show Yg m x ((1:Nat):Int)=cur by unfold Yg;rw [if_neg (by decide),if_pos hm,hxl]] at e2
   rw [e1,e2]
   exact ⟨by rw [ht];decide,_,ha _,fun h=>absurd (hm.symm.trans h) (by decide),by rw [ht,hd _ _ (by omega)];exact .dnK _ _ _ rfl rfl (fun _=>hxl) (fun h=>by cases h) .r⟩
  |oO l m' hm' hd' he=>
   have ht:tb m.kd x.st=((8:Nat):Int):=by rw [hm,hs];rfl
   obtain ⟨e1,e2⟩:=hv.becomes ht (by decide)
   rw [e1]
   exact ⟨by rw [ht];decide,_,ha _,fun h=>absurd (hm.symm.trans h) (by decide),by rw [ht,hc _ _ (by omega) (by omega)];exact .dnG _ _ rfl rfl (fun h=>by cases h) (fun _=>he) hm'⟩
  |oD m' hm' hd' hl'=>
   have ht:tb m.kd x.st=((8:Nat):Int):=by rw [hm,hs];rfl
   obtain ⟨e1,e2⟩:=hv.becomes ht (by decide)
   rw [e1]
   exact ⟨by rw [ht];decide,_,ha _,fun h=>absurd (hm.symm.trans h) (by decide),by rw [ht,hd _ _ (by omega)];exact .dnG _ _ rfl rfl (fun _=>hxl) (fun h=>by cases h) hm'⟩
theorem Bs.one (h:Bs cur el ow sh b st l U D):D=[]∨∃a,D=[a]:=by
 cases h<;>simp
theorem Rel.hear {m:Ms} {V:List Ms} {x:Slt} (h0:0≤x.st) (hkt:kt=12∨kt=13) (h:Rel cur el kt ow sh w b x.st.toNat x.l U N (m::V)) {st':Int} {l':List Int} (hv:HV m x st' l'):
 tb m.kd x.st≠0∧Rel cur el kt ow sh w b st'.toNat l' U (N++Z8 m.kd x (tb m.kd x.st)) V:=by
 generalize hst:x.st.toNat=st at h
 generalize hxl:x.l=xl at h
 generalize hDD:m::V=DD at h
 cases h with
 |base h=>
  subst hDD hxl
  obtain ⟨a1,rfl,a3,a4⟩:=h.hear h0 hst hv
  rw [a3]
  exact ⟨a1,.base a4⟩
 |told a h ha ho h13=>
  subst hxl
  rcases h.one with rfl|⟨d,rfl⟩
  ·simp only [List.nil_append,List.cons.injEq] at hDD
   obtain ⟨rfl,rfl⟩:=hDD
   obtain ⟨a1,r,a2,ake,a3⟩:=h.gives (m:=m) h0 hst (by rcases hkt with h1|h1;exact .inl (ha.trans h1);exact .inr ⟨ha.trans h1,h13 h1⟩) ho hv
   rw [a2]
   exact ⟨a1,.ack r a3 (fun h1=>ake (ha.trans h1))⟩
  ·simp only [List.cons_append,List.nil_append,List.cons.injEq] at hDD
   obtain ⟨rfl,rfl⟩:=hDD
   obtain ⟨a1,_,a3,a4⟩:=h.hear h0 hst hv
   rw [a3]
   exact ⟨a1,.told (D:=[]) a a4 ha ho h13⟩
 |ack a h=>cases hDD
end
end
end Go.Proofs.YtadeoflkppiflaaGreatDoor
