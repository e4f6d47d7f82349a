/- Texts of the walk, one behind the other: Ago1 Arrq Pra Dirg Prb Prc. No condition. -/
import Derived.Test.YtlidfghgjjffaaaGreatDoorMQaa
import Derived.Test.YtlidfghgjjffaaaGreatDoorMQac
import Derived.Test.YtlidfghgjjffaaaGreatDoorMQae
namespace Go.Proofs.YtlidfghgjjffaaaGreatDoor
open Go.RowKit
set_option linter.unusedVariables false
set_option maxHeartbeats 1000000
section
def way1 (st:Int):Nat:=if 3<st then 1 else 0
section
variable {S N:Nat} {s:Sta} (hg:Good S N s.1) (hs:Sane s.1)
include hg hs
end
end
section
structure OnceAt (S M:Nat) (xs:List Slt) (u:Int):Prop where
 good:Good S M xs
 apart:∀(i j:Nat) (x y:Slt),xs[i]? =some x→xs[j]? =some y→i≠j→x.st≠0→y.st≠0→x.li≠y.li∧x.us≠y.us
 top:∀x∈xs,x.st≠0→x.us≤u
 pos:∀x∈xs,x.st≠0→1≤x.st
theorem OnceAt.new {S M:Nat} (h:Good S M (List.replicate (S*M) sltZ)):OnceAt S M (List.replicate (S*M) sltZ) 0:=by
 have hz:∀x∈List.replicate (S*M) sltZ,x.st=0:=fun x hx=>by rw [List.eq_of_mem_replicate hx];rfl
 refine ⟨h,?_,?_,?_⟩
 ·intro i j x y hx _ _ h0 _
  exact absurd (hz x (List.mem_of_getElem? hx)) h0
 ·intro x hx h0;exact absurd (hz x hx) h0
 ·intro x hx h0;exact absurd (hz x hx) h0
theorem OnceAt.put {S M:Nat} {xs:List Slt} {u:Int} (h:OnceAt S M xs u) {p:Nat} {y:Slt} (hg:Good S M (xs.set p y)) (hu:y.us=u+1) (hs:1≤y.st) (hno:∀(j:Nat) (z:Slt),xs[j]? =some z→j≠p→z.st≠0→z.li≠y.li):OnceAt S M (xs.set p y) (u+1):=by
 have hset:∀(i:Nat) (z:Slt),(xs.set p y)[i]? =some z→(i=p∧z=y)∨(i≠p∧xs[i]? =some z):=by
  intro i z hz
  rw [List.getElem?_set] at hz
  split at hz
  ·rename_i e
   split at hz
   ·injection hz with hz
    exact .inl ⟨e.symm,hz.symm⟩
   ·cases hz
  ·rename_i e
   exact .inr ⟨fun e2=>e e2.symm,hz⟩
 refine ⟨hg,?_,?_,?_⟩
 ·intro i j x z hx hz hij h0 h1
  rcases hset i x hx with ⟨e1,rfl⟩|⟨e1,hx'⟩
  ·rcases hset j z hz with ⟨e2,rfl⟩|⟨e2,hz'⟩
   ·omega
   ·have h2:=hno j z hz' e2 h1
    have h3:=h.top z (List.mem_of_getElem? hz') h1
    exact ⟨fun e=>h2 e.symm,by omega⟩
  ·rcases hset j z hz with ⟨e2,rfl⟩|⟨e2,hz'⟩
   ·have h2:=hno i x hx' e1 h0
    have h3:=h.top x (List.mem_of_getElem? hx') h0
    exact ⟨h2,by omega⟩
   ·exact h.apart i j x z hx' hz' hij h0 h1
 ·intro x hx h0
  rcases List.mem_or_eq_of_mem_set hx with h1|rfl
  ·have:=h.top x h1 h0;omega
  ·omega
 ·intro x hx h0
  rcases List.mem_or_eq_of_mem_set hx with h1|rfl
  ·exact h.pos x h1 h0
  ·exact hs
theorem OnceAt.find {S M:Nat} {xs:List Slt} {u:Int} (h:OnceAt S M xs u) {i:Nat} {y:Slt} (hy:xs[i]? =some y) (h0:y.st≠0):xs.findIdx (X9 y.li)=i∧Qy xs y.li=y∧XM xs y.li=true:=by
 have hi:=(Vg hy).1
 have e:xs.findIdx (X9 y.li)=i:=by
  rcases hit_or (X9 y.li) xs with ⟨k,z,e1,e2,e3,e4,e5,e6⟩|⟨e1,e2,e3⟩
  ·obtain ⟨h1,h2⟩:=Qby e4
   by_cases hk:k=i
   ·omega
   ·exact absurd h2 (h.apart k i z y e3 hy hk h1 h0).1
  ·have:=e3 y (List.mem_of_getElem? hy)
   simp [X9,h0] at this
 refine ⟨e,?_,?_⟩
 ·unfold Qy;rw [e,hy]
 ·unfold XM;rw [e];simpa using hi
theorem OnceAt.other {S M:Nat} {xs:List Slt} {u:Int} (h:OnceAt S M xs u) {i:Nat} {y:Slt} (hy:xs[i]? =some y) (h0:y.st≠0):∀(j:Nat) (z:Slt),xs[j]? =some z→j≠i→z.st≠0→z.li≠y.li:=
 fun j z hz hj hz0=>(h.apart j i z y hz hy hj hz0 h0).1
theorem OnceAt.set {S M:Nat} {xs:List Slt} {u:Int} (h:OnceAt S M xs u) (li st:Int) (l:List Int) (hl:l.length=8):OnceAt S M (setXs S M xs u li st l hl) (setU S M xs u li st):=by
 have hg:=h.good.setXs u li st l hl
 unfold setXs setU at *
 by_cases hb:Qbn li st
 ·rw [if_pos hb,if_pos hb];exact h
 rw [if_neg hb] at hg
 rw [if_neg hb,if_neg hb]
 have hst:1≤st:=by unfold Qbn at hb;omega
 rcases h.good.where li with ⟨k,y,e1,e2,hk,hy,h0,hli,_,e3,e4,e5⟩|⟨e1,e2,e3,e4⟩
 ·have ep:Qc5 S M xs li=XN S li*M+k:=by unfold Qc5;rw [e2,if_pos e5]
  rw [ep] at hg ⊢
  rw [if_pos e5]
  refine h.put hg rfl hst ?_
  intro j z hz hj hz0
  have:=h.other hy h0 j z hz hj hz0
  rw [hli] at this
  exact this
 ·rcases h.good.room li with ⟨k,y,d1,hk,hy,hst0,d3,d4,_⟩|⟨d1,d2,d3⟩
  ·have ep:Qc5 S M xs li=XN S li*M+k:=by unfold Qc5;rw [e3,d1,if_neg (by omega),if_pos hk]
   rw [ep] at hg ⊢
   rw [if_pos d4]
   refine h.put hg rfl hst ?_
   intro j z hz hj hz0 e
   have:=e4 z (List.mem_of_getElem? hz)
   simp [X9,hz0] at this
   exact this e
  ·have ep:Qc5 S M xs li=xs.length:=by unfold Qc5;rw [e3,d2,if_neg (by omega),if_neg (by omega)]
   rw [ep,Qhg,if_neg (by omega)]
   exact h
theorem OnceAt.touch {S M:Nat} {xs:List Slt} {u:Int} (h:OnceAt S M xs u) (li:Int):OnceAt S M (touchXs xs u li) (Qdk xs u li):=by
 have hg:=h.good.touchXs u li
 unfold touchXs Qdk at *
 rcases hit_or (X9 li) xs with ⟨k,y,e1,e2,e3,e4,e5,e6⟩|⟨e1,e2,e3⟩
 ·obtain ⟨h1,h2⟩:=Qby e4
  rw [e2,e3] at hg ⊢
  rw [if_pos e5]
  exact h.put hg rfl (h.pos y (List.mem_of_getElem? e3) h1) (fun j z hz hj hz0=>h.other e3 h1 j z hz hj hz0)
 ·rw [e2,List.getElem?_eq_none (Nat.le_refl _),if_neg (by omega)]
  exact h
theorem OnceAt.drop {S M:Nat} {xs:List Slt} {u:Int} (h:OnceAt S M xs u) (li:Int):OnceAt S M (dropXs xs li) u:=by
 have hg:=h.good.dropXs li
 unfold dropXs at *
 have hset:∀(i:Nat) (z:Slt),(xs.set (xs.findIdx (X9 li)) sltZ)[i]? =some z→z.st≠0→xs[i]? =some z:=by
  intro i z hz h0
  rw [List.getElem?_set] at hz
  split at hz
  ·split at hz
   ·injection hz with hz
    rw [←hz] at h0
    exact absurd rfl h0
   ·cases hz
  ·exact hz
 refine ⟨hg,?_,?_,?_⟩
 ·intro i j x y hx hy hij h0 h1
  exact h.apart i j x y (hset i x hx h0) (hset j y hy h1) hij h0 h1
 ·intro x hx h0
  obtain ⟨i,hi⟩:=List.getElem?_of_mem hx
  exact h.top x (List.mem_of_getElem? (hset i x hi h0)) h0
 ·intro x hx h0
  obtain ⟨i,hi⟩:=List.getElem?_of_mem hx
  exact h.pos x (List.mem_of_getElem? (hset i x hi h0)) h0
end
section
theorem Qdw {xs:List Slt} {li:Int} (h:∀x∈xs,X9 li x=false):Qy xs li=sltZ:=by
 rcases Qcc xs li with ⟨h1,h2,_⟩|⟨h1,_⟩
 ·rw [h _ h1] at h2;cases h2
 ·exact h1
theorem Qhq {S M:Nat} {xs:List Slt} {u:Int} (h:OnceAt S M xs u) (li:Int):(∃(i:Nat) (z:Slt),xs[i]? =some z∧z.st≠0∧z.li=li∧Qy xs li=z∧xs.findIdx (X9 li)=i)∨(Qy xs li=sltZ∧∀x∈xs,X9 li x=false):=by
 rcases Qcc xs li with ⟨h1,h2,_⟩|⟨h1,_,h2⟩
 ·left
  obtain ⟨i,hi⟩:=List.getElem?_of_mem h1
  obtain ⟨a,b⟩:=Qby h2
  refine ⟨i,_,hi,a,b,rfl,?_⟩
  have:=(h.find hi a).1
  rw [b] at this
  exact this
 ·exact .inr ⟨h1,h2⟩
theorem OnceAt.putFind {S M:Nat} {xs:List Slt} {u u':Int} (h:OnceAt S M xs u) {p:Nat} {x y:Slt} {li:Int} (hp:xs[p]? =some x) (hx:x.st=0∨x.li=li) (hy0:y.st≠0) (hyl:y.li=li) (h':OnceAt S M (xs.set p y) u'):
 Qy (xs.set p y) li=y∧∀li',li'≠li→Qy (xs.set p y) li'=Qy xs li':=by
 have hpl:=(Vg hp).1
 have hyp:(xs.set p y)[p]? =some y:=by rw [List.getElem?_set];simp [hpl]
 refine ⟨?_,fun li' hne=>?_⟩
 ·have:=(h'.find hyp hy0).2.1
  rw [hyl] at this
  exact this
 ·rcases Qhq h li' with ⟨i,z,hi,hz,hzl,e,_⟩|⟨e,hn⟩
  ·have hip:i≠p:=by
    rintro rfl
    rw [hp] at hi
    injection hi with hi
    subst hi
    rcases hx with h1|h1
    ·exact hz h1
    ·exact hne (hzl.symm.trans h1)
   have hi':(xs.set p y)[i]? =some z:=by rw [List.getElem?_set_ne (fun e=>hip e.symm)];exact hi
   have:=(h'.find hi' hz).2.1
   rw [hzl] at this
   rw [e,this]
  ·rw [e]
   apply Qdw
   intro w hw
   rcases List.mem_or_eq_of_mem_set hw with h1|rfl
   ·exact hn w h1
   ·simp [X9,hyl];intro _;exact fun e=>hne e.symm
theorem OnceAt.dropFind {S M:Nat} {xs:List Slt} {u:Int} (h:OnceAt S M xs u) (li:Int):Qy (dropXs xs li) li=sltZ∧∀li',li'≠li→Qy (dropXs xs li) li'=Qy xs li':=by
 have h':=h.drop li
 rcases Qhq h li with ⟨p,x,hp,hx,hxl,_,hf⟩|⟨_,hn⟩
 ·unfold dropXs at h' ⊢
  rw [hf] at h' ⊢
  have hpl:=(Vg hp).1
  refine ⟨?_,fun li' hne=>?_⟩
  ·apply Qdw
   intro w hw
   obtain ⟨j,hj⟩:=List.getElem?_of_mem hw
   rw [List.getElem?_set] at hj
   split at hj
   ·rename_i hjp
    subst hjp
    injection hj with hj;subst hj;rfl
   ·rename_i hjp
    by_cases hw0:w.st=0
    ·simp [X9,hw0]
    ·have:=h.other hp hx j w hj (fun e=>hjp e.symm) hw0
     rw [hxl] at this
     simp [X9,this]
  ·rcases Qhq h li' with ⟨i,z,hi,hz,hzl,e,_⟩|⟨e,hn⟩
   ·have hip:i≠p:=by
     rintro rfl
     rw [hp] at hi
     injection hi with hi
     subst hi
     exact hne (hzl.symm.trans hxl)
    have hi':(xs.set p sltZ)[i]? =some z:=by rw [List.getElem?_set_ne (fun e=>hip e.symm)];exact hi
    have:=(h'.find hi' hz).2.1
    rw [hzl] at this
    rw [e,this]
   ·rw [e]
    apply Qdw
    intro w hw
    rcases List.mem_or_eq_of_mem_set hw with h1|rfl
    ·exact hn w h1
    ·rfl
 ·have e:dropXs xs li=xs:=by
   unfold dropXs
   rw [List.findIdx_eq_length.2 hn]
   exact List.set_eq_of_length_le (Nat.le_refl _)
  rw [e]
  exact ⟨Qdw hn,fun _ _=>rfl⟩
structure AJ (S N n:Nat) (s:Sta):Prop where
 once:OnceAt S N s.1 s.2
 sane:Sane s.1
 pos:0≤s.2
 lines:∀x∈s.1,x.st≠0→x.li<n
theorem AJ.good {S N n:Nat} {s:Sta} (h:AJ S N n s):Good S N s.1:=h.once.good
def vw (s:Sta) (li:Int):Int×List Int:=((Qy s.1 li).st,(Qy s.1 li).l)
theorem AJ.line {S N n:Nat} {s:Sta} (h:AJ S N n s) {li:Int} (h0:(vw s li).1≠0):0≤li∧li<n∧(Qy s.1 li).li=li∧XM s.1 li=true:=by
 obtain ⟨h1,h2⟩:=find_line (show (Qy s.1 li).st≠0 from h0)
 rcases Qcc s.1 li with ⟨h3,_,_⟩|⟨h3,_⟩
 ·have h4:=h.lines _ h3 h0
  obtain ⟨i,hi⟩:=List.getElem?_of_mem h3
  have h5:=(h.good.home i _ hi h0).1
  rw [h1] at h4 h5
  exact ⟨h5,h4,h1,h2⟩
 ·exact absurd (show (Qy s.1 li).st=0 by rw [h3];rfl) h0
section
variable {S N n:Nat} {s:Sta} (h:AJ S N n s)
include h
theorem AJ.sane1 (li:Int):0≤(vw s li).1∧(vw s li).1≤9:=Qdv h.sane li
theorem AJ.set {li st:Int} (hn:li<n) (l:List Int) (hl:l.length=8) (hs:st≤9):AJ S N n (setS S N s li st l hl):=by
 refine ⟨h.once.set li st l hl,h.sane.set li st l hl,Int.le_trans h.pos Qh4.1,?_⟩
 intro x hx h0
 have e:(setS S N s li st l hl).1=setXs S N s.1 s.2 li st l hl:=rfl
 rw [e] at hx
 unfold setXs at hx
 split at hx
 ·exact h.lines x hx h0
 ·rcases List.mem_or_eq_of_mem_set hx with h1|rfl
  ·exact h.lines x h1 h0
  ·exact hn
theorem AJ.touch (li:Int):AJ S N n (Qer s li):=by
 refine ⟨h.once.touch li,h.sane.touch li,Int.le_trans h.pos touchS_u.1,?_⟩
 intro x hx h0
 have e:(Qer s li).1=touchXs s.1 s.2 li:=rfl
 rw [e] at hx
 unfold touchXs at hx
 split at hx
 ·rename_i y hy
  rcases List.mem_or_eq_of_mem_set hx with h1|rfl
  ·exact h.lines x h1 h0
  ·exact h.lines y (List.mem_of_getElem? hy) h0
 ·exact h.lines x hx h0
theorem AJ.drop (li:Int):AJ S N n (Qit s li):=by
 refine ⟨h.once.drop li,h.sane.drop li,h.pos,?_⟩
 intro x hx h0
 rcases List.mem_or_eq_of_mem_set hx with h1|rfl
 ·exact h.lines x h1 h0
 ·exact absurd rfl h0
theorem AJ.vwSet {li st:Int} (h0:0≤li) (h1:1≤st) (h9:st≤9) (hr:XM s.1 li=true∨Jx S N s.1 li=true) (l:List Int) (hl:l.length=8):
 vw (setS S N s li st l hl) li=(st,l)∧∀li',li'≠li→vw (setS S N s li st l hl) li'=vw s li':=by
 have hb:¬Qbn li st:=by unfold Qbn;omega
 have ho:=h.once.set li st l hl
 have e:(setS S N s li st l hl).1=setXs S N s.1 s.2 li st l hl:=rfl
 unfold vw
 rw [e]
 unfold setXs at ho ⊢
 rw [if_neg hb] at ho ⊢
 have hx:∃x,s.1[Qc5 S N s.1 li]? =some x∧(x.st=0∨x.li=li):=by
  by_cases hd:s.1.findIdx (X9 li)<s.1.length
  ·unfold Qc5
   rw [if_pos hd]
   refine ⟨_,List.getElem?_eq_getElem hd,.inr ?_⟩
   exact (Qby (List.findIdx_getElem (w:=hd))).2
  ·have hr':Jx S N s.1 li=true:=by
    rcases hr with h2|h2
    ·unfold XM at h2;exact absurd (of_decide_eq_true h2) hd
    ·exact h2
   unfold Jx at hr'
   simp at hr'
   unfold Qc5
   rw [if_neg hd,if_pos hr'.2]
   have h3:XN S li*N+(seg N s.1 (XN S li)).findIdx Qch<s.1.length:=by
    have:=h.good.fit li
    have:=h.good.len
    omega
   refine ⟨_,List.getElem?_eq_getElem h3,.inl ?_⟩
   have h4:(seg N s.1 (XN S li)).findIdx Qch<(seg N s.1 (XN S li)).length:=by
    rw [h.good.seg_len];exact hr'.2
   have h5:=List.findIdx_getElem (w:=h4)
   have h6:=Qh6 s.1 (XN S li) _ hr'.2
   rw [List.getElem?_eq_getElem h4,List.getElem?_eq_getElem h3] at h6
   injection h6 with h6
   rw [h6] at h5
   simpa [Qch] using h5
 obtain ⟨x,hp,hx⟩:=hx
 obtain ⟨a,b⟩:=h.once.putFind hp hx (y:=⟨st,li,l,s.2+1,hl⟩) (by show st≠0;omega) rfl ho
 exact ⟨by rw [a],fun li' hne=>by rw [b li' hne]⟩
theorem AJ.vwTouch (li li':Int):vw (Qer s li) li'=vw s li':=by
 have ho:=h.once.touch li
 unfold vw
 have e:(Qer s li).1=touchXs s.1 s.2 li:=rfl
 rw [e]
 unfold touchXs at ho ⊢
 rcases Qhq h.once li with ⟨p,x,hp,hx,hxl,hfv,hf⟩|⟨_,hn⟩
 ·rw [hf,hp] at ho ⊢
  obtain ⟨a,b⟩:=h.once.putFind hp (.inr hxl) (y:=x.use (s.2+1)) hx hxl ho
  by_cases hne:li'=li
  ·subst hne
   rw [hfv]
   show ((Qy (s.1.set p (x.use (s.2+1))) li').st,(Qy (s.1.set p (x.use (s.2+1))) li').l)=_
   rw [a];rfl
  ·show ((Qy (s.1.set p (x.use (s.2+1))) li').st,(Qy (s.1.set p (x.use (s.2+1))) li').l)=_
   rw [b li' hne]
 ·rw [List.findIdx_eq_length.2 hn,List.getElem?_eq_none (Nat.le_refl _)]
theorem AJ.vwDrop (li:Int):(vw (Qit s li) li).1=0∧∀li',li'≠li→vw (Qit s li) li'=vw s li':=by
 obtain ⟨a,b⟩:=h.once.dropFind li
 unfold vw
 have e:(Qit s li).1=dropXs s.1 li:=rfl
 rw [e]
 exact ⟨by rw [a];rfl,fun li' hne=>by rw [b li' hne]⟩
end
inductive AOk (li:Int):Int→List Int→Int→List Int→List Ms→Prop
 |askS (l l':List Int):AOk li 0 l 4 l' [ms4 1 li false false]
 |askM (l l':List Int):AOk li 0 l 5 l' [ms4 2 li false false]
 |up (l:List Int):AOk li 1 l 6 l [ms4 2 li false false]
 |outS (l:List Int):AOk li 1 l 7 l [ms4 3 li false false]
 |outE (l:List Int):AOk li 2 l 7 l [ms4 3 li false false]
 |outM (l:List Int) (m:Ms) (hk:m.kd=3) (hl:m.li=li) (hd:m.di=true) (hke:m.ke=false) (hm:m.l=l):AOk li 3 l 9 l [m]
def Asks (n:Nat) (s s':Sta) (ms:List Ms):Prop:=
 (ms=[]∧∀li,vw s' li=vw s li)∨∃li:Int,0≤li∧li<n∧AOk li (vw s li).1 (vw s li).2 (vw s' li).1 (vw s' li).2 ms∧∀li',li'≠li→vw s' li'=vw s li'
theorem Asks.same (n:Nat) (s:Sta):Asks n s s []:=.inl ⟨rfl,fun _=>rfl⟩
section
variable {S N n:Nat} {s:Sta} (h:AJ S N n s)
include h
theorem AJ.outF (li:Int):AJ S N n (outF S N s li).1∧Asks n s (outF S N s li).1 (outF S N s li).2:=by
 cases hr:YO (Qy s.1 li).st
 ·rw [show Go.Proofs.YtlidfghgjjffaaaGreatDoor.outF S N s li=(s,[]) by unfold Go.Proofs.YtlidfghgjjffaaaGreatDoor.outF;rw [if_neg (by simp [hr])]]
  exact ⟨h,.same n s⟩
 ·have hst:=(rest_iff _).1 hr
  obtain ⟨h0,hn,hl,hd⟩:=h.line (li:=li) (by show (Qy s.1 li).st≠0;omega)
  rw [show Go.Proofs.YtlidfghgjjffaaaGreatDoor.outF S N s li=(setS S N s li (Qg4 (Qy s.1 li).st) (Qy s.1 li).l (Qy s.1 li).h,[JT 3 (Qy s.1 li) false]) by unfold Go.Proofs.YtlidfghgjjffaaaGreatDoor.outF;rw [if_pos hr]]
  have hnx:1≤Qg4 (Qy s.1 li).st∧Qg4 (Qy s.1 li).st≤9:=by unfold Qg4;split<;>omega
  obtain ⟨a,b⟩:=h.vwSet h0 hnx.1 hnx.2 (.inl hd) (Qy s.1 li).l (Qy s.1 li).h
  refine ⟨h.set hn _ _ hnx.2,.inr ⟨li,h0,hn,?_,b⟩⟩
  rw [a]
  show AOk li (Qy s.1 li).st (Qy s.1 li).l (Qg4 (Qy s.1 li).st) (Qy s.1 li).l [JT 3 (Qy s.1 li) false]
  unfold Qg4 JT
  generalize Qy s.1 li=x at hst hl
  have h3:x.st=1∨x.st=2∨x.st=3:=by omega
  rcases h3 with h3|h3|h3
  ·rw [h3,if_neg (by omega),if_neg (by omega),hl];exact .outS _
  ·rw [h3,if_neg (by omega),if_neg (by omega),hl];exact .outE _
  ·rw [h3,if_pos rfl,if_pos (.inl rfl)];exact .outM _ _ rfl hl rfl rfl rfl
theorem AJ.getF {li st kd:Int} (hk:(st=4∧kd=1)∨(st=5∧kd=2)) (h0:0≤li) (hn:li<n) (hz:(vw s li).1=0):AJ S N n (getF S N s li st kd).1∧Asks n s (getF S N s li st kd).1 (getF S N s li st kd).2:=by
 cases hr:Jx S N s.1 li
 ·rw [show Go.Proofs.YtlidfghgjjffaaaGreatDoor.getF S N s li st kd=Go.Proofs.YtlidfghgjjffaaaGreatDoor.outF S N s (Qau S N s.1 li) by unfold Go.Proofs.YtlidfghgjjffaaaGreatDoor.getF;rw [if_neg (by simp [hr])]]
  exact h.outF _
 ·rw [show Go.Proofs.YtlidfghgjjffaaaGreatDoor.getF S N s li st kd=(setS S N s li st zl8 rfl,[ms4 kd li false false]) by unfold Go.Proofs.YtlidfghgjjffaaaGreatDoor.getF;rw [if_pos hr]]
  obtain ⟨a,b⟩:=h.vwSet h0 (by omega:1≤st) (by omega) (.inr hr) zl8 rfl
  refine ⟨h.set hn _ _ (by omega),.inr ⟨li,h0,hn,?_,b⟩⟩
  rw [a,hz]
  rcases hk with ⟨rfl,rfl⟩|⟨rfl,rfl⟩
  ·exact .askS _ _
  ·exact .askM _ _
omit h in
theorem AJ.gone {li:Int} (hi:Qgh s.1=true) (hm:YO (vw s li).1=false):(vw s li).1=0:=by
 rcases idle_find hi li with h1|h1
 ·exact h1
 ·rw [show (vw s li).1=(Qy s.1 li).st from rfl,h1] at hm;cases hm
theorem AJ.loadF {li:Int} (hn:li<n) (k:Int):AJ S N n (loadF S N s li k).1∧Asks n s (loadF S N s li k).1 (loadF S N s li k).2.2.2∧((loadF S N s li k).2.2.1=true→mayR (vw s li).1=true∧isWd k=true∧isLn li=true∧(loadF S N s li k).2.1=(vw s li).2.getD k.toNat 0):=by
 unfold Go.Proofs.YtlidfghgjjffaaaGreatDoor.loadF
 split
 ·rename_i hc
  rw [Bool.and_eq_true] at hc
  have h0:0≤li:=by have:=hc.1;simp [isLn] at this;exact this.1
  split
  ·rename_i hm
   exact ⟨h.touch li,.inl ⟨rfl,fun li'=>h.vwTouch li li'⟩,fun _=>⟨hm,hc.2,hc.1,rfl⟩⟩
  ·rename_i hm
   split
   ·rename_i hi
    have hz:=AJ.gone (li:=li) hi (by
     unfold mayR at hm
     cases h1:YO (vw s li).1
     ·rfl
     ·rw [show YO (Qy s.1 li).st=true from h1] at hm;simp at hm)
    obtain ⟨a,b⟩:=h.getF (.inl ⟨rfl,rfl⟩) h0 hn hz
    exact ⟨a,b,fun h=>by cases h⟩
   ·exact ⟨h,.same n s,fun h=>by cases h⟩
 ·exact ⟨h,.same n s,fun h=>by cases h⟩
theorem AJ.reachF {li:Int} (hn:li<n):AJ S N n (reachF S N s li).1∧Asks n s (reachF S N s li).1 (reachF S N s li).2:=by
 unfold Go.Proofs.YtlidfghgjjffaaaGreatDoor.reachF
 split
 ·rename_i hc
  simp only [Bool.and_eq_true,Bool.not_eq_true'] at hc
  have h0:0≤li:=by have:=hc.1.1;simp [isLn] at this;exact this.1
  split
  ·rename_i hd
   have hst:(Qy s.1 li).st=1:=by
    rw [find_drop] at hd
    rcases idle_find hc.2 li with h1|h1
    ·rw [h1] at hd;cases hd
    ·have h2:=(rest_iff _).1 h1
     have h3:=hc.1.2
     unfold Qeo mayWr at h3
     simp at h3
     omega
   obtain ⟨a,b⟩:=h.vwSet h0 (by decide:(1:Int)≤6) (by decide) (.inl hd) (Qy s.1 li).l (Qy s.1 li).h
   refine ⟨h.set hn _ _ (by decide),.inr ⟨li,h0,hn,?_,b⟩⟩
   rw [a]
   show AOk li (Qy s.1 li).st (Qy s.1 li).l 6 (Qy s.1 li).l _
   rw [hst]
   exact .up _
  ·rename_i hd
   refine h.getF (.inr ⟨rfl,rfl⟩) h0 hn ?_
   rw [find_drop] at hd
   show (Qy s.1 li).st=0
   simpa using hd
 ·exact ⟨h,.same n s⟩
theorem AJ.storeF {li:Int} (hn:li<n) (k v:Int):AJ S N n (storeF S N s li k v).1∧
 (((storeF S N s li k v).2.1=true∧isWd k=true∧isLn li=true∧((vw s li).1=2∨(vw s li).1=3)∧(storeF S N s li k v).2.2=[]∧vw (storeF S N s li k v).1 li=(3,(vw s li).2.set k.toNat v)∧∀li',li'≠li→vw (storeF S N s li k v).1 li'=vw s li')∨
  ((storeF S N s li k v).2.1=false∧Asks n s (storeF S N s li k v).1 (storeF S N s li k v).2.2)):=by
 unfold Go.Proofs.YtlidfghgjjffaaaGreatDoor.storeF
 split
 ·rename_i hc
  rw [Bool.and_eq_true] at hc
  have h0:0≤li:=by have:=hc.1;simp [isLn] at this;exact this.1
  split
  ·rename_i ho
   have hst:(Qy s.1 li).st=2∨(Qy s.1 li).st=3:=by unfold Qeo mayWr at ho;simpa using ho
   obtain ⟨_,_,_,hd⟩:=h.line (li:=li) (by show (Qy s.1 li).st≠0;omega)
   obtain ⟨a,b⟩:=h.vwSet h0 (by decide:(1:Int)≤3) (by decide) (.inl hd) ((Qy s.1 li).l.set k.toNat v) (by rw [List.length_set];exact (Qy s.1 li).h)
   exact ⟨h.set hn _ _ (by decide),.inl ⟨rfl,hc.2,hc.1,hst,rfl,a,b⟩⟩
  ·obtain ⟨a,b⟩:=h.reachF hn
   exact ⟨a,.inr ⟨rfl,b⟩⟩
 ·exact ⟨h,.inr ⟨rfl,.same n s⟩⟩
theorem AJ.evictF (li:Int):AJ S N n (evictF S N s li).1∧Asks n s (evictF S N s li).1 (evictF S N s li).2.1:=by
 unfold Go.Proofs.YtlidfghgjjffaaaGreatDoor.evictF
 split
 ·exact h.outF li
 ·exact ⟨h,.same n s⟩
theorem AJ.hearF {m:Ms} (hg:(mg m&&Y5 m.kd)=true) (hn:m.li<n) (ht:tb m.kd (vw s m.li).1≠0):
 AJ S N n (hearF S N s m).1∧(hearF S N s m).2=(Xh m.kd (Qy s.1 m.li) (tb m.kd (vw s m.li).1),0)∧(∀li',li'≠m.li→vw (hearF S N s m).1 li'=vw s li')∧
 ((tb m.kd (vw s m.li).1=10→(vw (hearF S N s m).1 m.li).1=0)∧(tb m.kd (vw s m.li).1=11→vw (hearF S N s m).1 m.li=vw s m.li)∧
  (tb m.kd (vw s m.li).1≠10→tb m.kd (vw s m.li).1≠11→vw (hearF S N s m).1 m.li=(tb m.kd (vw s m.li).1,Y4 m (Qy s.1 m.li) (tb m.kd (vw s m.li).1)))):=by
 unfold Go.Proofs.YtlidfghgjjffaaaGreatDoor.hearF
 have e:(Qy s.1 m.li).st=(vw s m.li).1:=rfl
 rw [e,if_pos hg,if_neg ht]
 have hle:=tb_le m.kd (vw s m.li).1
 unfold Qfn
 by_cases h10:tb m.kd (vw s m.li).1=10
 ·rw [if_pos h10]
  obtain ⟨a,b⟩:=h.vwDrop m.li
  exact ⟨h.drop _,rfl,b,fun _=>a,fun h11=>by omega,fun h11=>absurd h10 h11⟩
 ·rw [if_neg h10]
  by_cases h11:tb m.kd (vw s m.li).1=11
  ·rw [if_pos h11]
   exact ⟨h,rfl,fun _ _=>rfl,fun h=>absurd h h10,fun _=>rfl,fun _ h=>absurd h11 h⟩
  ·rw [if_neg h11]
   have h14:m.kd≠14:=by intro h;apply h11;rw [h];rfl
   obtain ⟨h0,_,_,hd⟩:=h.line (li:=m.li) (tb_line ht h14)
   obtain ⟨a,b⟩:=h.vwSet h0 (by omega:1≤tb m.kd (vw s m.li).1) (by omega) (.inl hd) (Y4 m (Qy s.1 m.li) (tb m.kd (vw s m.li).1)) (Qd7 _ _ _)
   exact ⟨h.set hn _ _ (by omega),rfl,b,fun h=>absurd h h10,fun h=>absurd h h11,fun _ _=>a⟩
end
end
section
def Gp (e:En):Prop:=e.ow= -1∨(isC e.ow=true∧e.sh=0#8)
def Wp (e:En):Prop:=isC e.by_=true∧∀k:Nat,k<8→hasM e.wa k=true→hasM e.sh k=true∨e.ow=(k:Int)
def Bp (e:En):Prop:=(e.bu=0∧e.by_=0∧e.wa=0#8)∨((e.bu=1∨e.bu=2)∧Wp e∧e.wa≠0#8)∨((e.bu=4∨e.bu=5)∧Wp e)
theorem Qb8 {k:Nat} (h:k<8):isC (k:Int)=true:=by simp [isC];omega
theorem J3 (e:En) {k:Nat} (hk:k<8):hasM (Jb e) k=true↔hasM e.sh k=true∨e.ow=(k:Int):=by
 unfold Jb
 rw [Qgz,Bool.or_eq_true,Qdr,Bool.and_eq_true,decide_eq_true_eq]
 constructor
 ·rintro (h|⟨_,h⟩)
  ·exact .inl h
  ·exact .inr h
 ·rintro (h|h)
  ·exact .inl h
  ·exact .inr ⟨by rw [h];exact Qb8 hk,h⟩
theorem sub_iff (a b:Mk):((a&&& ~~~b)==0#8)=true↔∀k:Nat,k<8→hasM a k=true→hasM b k=true:=by
 rw [zero_iff]
 constructor
 ·intro h k hk ha
  have:=h k hk
  rw [Jt,ha,Bool.true_and] at this
  simpa using this
 ·intro h k hk
  rw [Jt]
  cases ha:hasM a k
  ·rfl
  ·rw [h k hk ha];rfl
theorem goodWa_iff (e:En):Qeu e=true↔Wp e:=by
 unfold Qeu Wp
 rw [Bool.and_eq_true,sub_iff]
 constructor
 ·rintro ⟨h1,h2⟩;exact ⟨h1,fun k hk h=>(J3 e hk).1 (h2 k hk h)⟩
 ·rintro ⟨h1,h2⟩;exact ⟨h1,fun k hk h=>(J3 e hk).2 (h2 k hk h)⟩
theorem YX {e:En} (h:e.he=true):JN e=true↔Gp e∧Bp e:=by
 have h1:Qfr e=true↔Gp e:=by simp [Qfr,Gp]
 have h2:Qca e=true↔Bp e:=by
  unfold Qca Bp
  split
  ·rename_i h0
   simp only [Bool.and_eq_true,beq_iff_eq]
   constructor
   ·rintro ⟨a,b⟩;exact .inl ⟨h0,a,b⟩
   ·rintro (⟨_,a,b⟩|⟨a,_⟩|⟨a,_⟩)
    ·exact ⟨a,b⟩
    ·omega
    ·omega
  ·split
   ·rename_i h0 h3
    rw [Bool.and_eq_true,goodWa_iff,bne_iff_ne]
    constructor
    ·rintro ⟨a,b⟩;exact .inr (.inl ⟨h3,a,b⟩)
    ·rintro (⟨a,_⟩|⟨_,a,b⟩|⟨a,_⟩)
     ·omega
     ·exact ⟨a,b⟩
     ·omega
   ·split
    ·rename_i h0 h3 h4
     rw [goodWa_iff]
     constructor
     ·exact fun a=>.inr (.inr ⟨h4,a⟩)
     ·rintro (⟨a,_⟩|⟨a,_⟩|⟨_,a⟩)
      ·omega
      ·omega
      ·exact a
    ·rename_i h0 h3 h4
     constructor
     ·intro h;cases h
     ·rintro (⟨a,_⟩|⟨a,_⟩|⟨a,_⟩)<;>omega
 unfold JN
 rw [if_pos h,Bool.and_eq_true,h1,h2]
theorem bits_zero (c:Int) (h:isC c=true):bitM c≠0#8:=by
 have:=bit_ne0 c
 rw [h] at this
 simpa using this
theorem has_self {c:Int} (h:isC c=true):hasM (bitM c) c=true:=by rw [Qdr,h];simp
def okS (a:En) (s:Sd):Prop:=((s.m.kd=9∨s.m.kd=10)→a.ow=s.to∧s.m.l=a.l)∧(s.m.kd=8→hasM a.sh s.to=true∧s.m.l=a.l)∧((s.m.kd=12∨s.m.kd=13)→hasM a.wa s.to=true)
def Fit7 (r:En×List Sd):Prop:=r.1.he=true∧JN r.1=true∧∀s∈r.2,okS r.1 s
theorem Qhc {s:Mk} {m:Ms} {x:Sd} (h:x∈XC s m):hasM s x.to=true∧x.m=m:=by
 unfold XC at h
 obtain ⟨c,hc,rfl⟩:=List.mem_map.1 h
 exact ⟨(Qfj s c).1 hc,rfl⟩
theorem Qhp {e:En} (hh:e.he=true) (hg:Gp e) (c:Int) (hc:isC c=true) (m:Ms) (o:Mk) (kd:Int) (hkd:kd=12∨kd=13) (ho:∀k:Nat,k<8→hasM o k=true→hasM e.sh k=true∨e.ow=(k:Int)) (hk:m.kd=4∨m.kd=5∨((m.kd=1∨m.kd=2)∧o≠0#8)):Fit7 (J0 e c m o kd):=by
 have hg':Gp (J0 e c m o kd).1:=hg
 have hw:Wp (J0 e c m o kd).1:=⟨hc,ho⟩
 refine ⟨hh,(YX (e:=(J0 e c m o kd).1) hh).2 ⟨hg',?_⟩,?_⟩
 ·rcases hk with h|h|⟨h,h2⟩
  ·exact .inr (.inr ⟨.inl h,hw⟩)
  ·exact .inr (.inr ⟨.inr h,hw⟩)
  ·exact .inr (.inl ⟨h,hw,h2⟩)
 ·intro s hs
  obtain ⟨h1,h2⟩:=Qhc (show s∈XC o (ms4 kd m.li false false) from hs)
  have h3:s.m.kd=kd:=by rw [h2];rfl
  refine ⟨fun h=>?_,fun h=>?_,fun _=>h1⟩<;>omega
theorem Qil {e:En} (hh:e.he=true) (hb:e.bu=0∧e.by_=0∧e.wa=0#8) (c:Int) (hc:isC c=true) (kd li:Int) (hkd:kd=9∨kd=10):Fit7 (JI e c kd li):=by
 refine ⟨hh,(YX (e:=(JI e c kd li).1) hh).2 ⟨.inr ⟨hc,rfl⟩,.inl hb⟩,?_⟩
 intro s hs
 rw [show (JI e c kd li).2=XC (bitM c) (ms5 kd li e.l e.h) from rfl,Qhb hc] at hs
 obtain rfl:s=⟨c,ms5 kd li e.l e.h⟩:=by simpa using hs
 refine ⟨fun _=>⟨rfl,rfl⟩,fun h=>?_,fun h=>?_⟩
 ·have:kd=8:=h
  omega
 ·have:kd=12∨kd=13:=h
  omega
theorem fit_shared {e:En} (hh:e.he=true) (hg:e.ow= -1) (hb:e.bu=0∧e.by_=0∧e.wa=0#8) (c:Int) (hc:isC c=true) (li:Int):Fit7 (Jq e c li):=by
 refine ⟨hh,(YX (e:=(Jq e c li).1) hh).2 ⟨.inl hg,.inl hb⟩,?_⟩
 intro s hs
 rw [show (Jq e c li).2=XC (bitM c) (ms5 8 li e.l e.h) from rfl,Qhb hc] at hs
 obtain rfl:s=⟨c,ms5 8 li e.l e.h⟩:=by simpa using hs
 refine ⟨fun h=>?_,fun _=>⟨?_,rfl⟩,fun h=>?_⟩
 ·have:(8:Int)=9∨(8:Int)=10:=h
  omega
 ·show hasM (e.sh|||bitM c) c=true
  rw [Qgz,has_self hc,Bool.or_true]
 ·have:(8:Int)=12∨(8:Int)=13:=h
  omega
theorem Qho {e:En}:∀k:Nat,k<8→hasM (bitM e.ow) k=true→hasM e.sh k=true∨e.ow=(k:Int):=by
 intro k _ h
 rw [Qdr,Bool.and_eq_true,decide_eq_true_eq] at h
 exact .inr h.2
theorem busy0 {e:En} (hh:e.he=true) (g:JN e=true) (hb:e.bu=0):Gp e∧e.bu=0∧e.by_=0∧e.wa=0#8:=by
 obtain ⟨h1,h2⟩:=(YX hh).1 g
 refine ⟨h1,?_⟩
 rcases h2 with h|⟨h,_⟩|⟨h,_⟩
 ·exact h
 ·omega
 ·omega
theorem ask_fit {e:En} {c:Int} {m:Ms} (g:JN e=true) (hh:e.he=true) (hb:e.bu=0) (hc:isC c=true) (hm:Qeq m.kd=true):Fit7 (YT e c m):=by
 obtain ⟨hg,hb'⟩:=busy0 hh g hb
 have hk:m.kd=1∨m.kd=2∨m.kd=3∨m.kd=4∨m.kd=5:=by simp [Qeq] at hm;omega
 rcases hk with k|k|k|k|k
 ·rw [show YT e c m=Qe3 e c m by simp [YT,k]]
  unfold Qe3
  split
  ·rename_i h
   refine Qhp hh hg c hc m _ 13 (.inr rfl) Qho (.inr (.inr ⟨.inl k,?_⟩))
   rcases hg with h1|h1
   ·exact absurd h1 h.1
   ·exact bits_zero _ h1.1
  ·rename_i h
   split
   ·exact Qil hh hb' c hc 9 m.li (.inl rfl)
   ·rename_i hs
    refine fit_shared hh ?_ hb' c hc m.li
    rcases hg with h1|h1
    ·exact h1
    ·exact absurd h1.2 hs
 ·rw [show YT e c m=Qgk e c m by simp [YT,k]]
  unfold Qgk
  split
  ·exact Qil hh hb' c hc 10 m.li (.inr rfl)
  ·rename_i h
   refine Qhp hh hg c hc m _ 12 (.inl rfl) ?_ (.inr (.inr ⟨.inr k,h⟩))
   intro j hj hj2
   rw [Jt,Bool.and_eq_true] at hj2
   exact (J3 e hj).1 hj2.1
 ·rw [show YT e c m=putE e c m by simp [YT,k]]
  have hw:∀x:En,x.he=true→Gp x→(x.bu=0∧x.by_=0∧x.wa=0#8)→(Za x c).he=true∧JN (Za x c)=true:=by
   intro x h1 h2 h3
   have h4:(Za x c).he=true:=by unfold Za;split<;>exact h1
   refine ⟨h4,(YX h4).2 ⟨?_,?_⟩⟩
   ·unfold Za Gp
    split
    ·exact .inl rfl
    ·rcases h2 with h|⟨h,h'⟩
     ·exact .inl h
     ·right
      refine ⟨h,?_⟩
      show x.sh&&& ~~~(bitM c)=0#8
      rw [h']
      apply mk_ext;intro k _;rw [Jt,ZW];rfl
   ·left
    unfold Za
    split<;>exact h3
  unfold putE
  have h5:(Za (if e.ow=c then Ze e m else e) c).he=true∧JN (Za (if e.ow=c then Ze e m else e) c)=true:=by
   split
   ·refine hw _ ?_ ?_ ?_
    ·unfold Ze;split<;>exact hh
    ·unfold Ze;split<;>exact hg
    ·unfold Ze;split<;>exact hb'
   ·exact hw e hh hg hb'
  refine ⟨h5.1,h5.2,?_⟩
  intro s hs
  obtain ⟨_,h2⟩:=Qhc (show s∈XC (bitM c) (ms4 11 m.li false false) from hs)
  have h3:s.m.kd=11:=by rw [h2];rfl
  refine ⟨fun h=>?_,fun h=>?_,fun h=>?_⟩<;>omega
 ·rw [show YT e c m=cleanE e c m by simp [YT,k]]
  exact Qhp hh hg c hc m _ 13 (.inr rfl) Qho (.inl k)
 ·rw [show YT e c m=wipeE e c m by simp [YT,k]]
  exact Qhp hh hg c hc m _ 12 (.inl rfl) (fun j hj h=>(J3 e hj).1 h) (.inr (.inl k))
theorem Qfb (e:En) (m:Ms):(Ze e m).he=e.he∧(Ze e m).ow=e.ow∧(Ze e m).sh=e.sh∧(Ze e m).bu=e.bu∧(Ze e m).by_=e.by_∧(Ze e m).wa=e.wa:=by
 unfold Ze;split<;>exact ⟨rfl,rfl,rfl,rfl,rfl,rfl⟩
theorem Qcj (e:En) (c:Int) (m:Ms):(QW e c m).he=e.he∧(QW e c m).ow=(if e.ow=c then -1 else e.ow)∧(QW e c m).sh=(if m.ke=true then (e.sh&&& ~~~(bitM c))|||bitM c else e.sh&&& ~~~(bitM c))∧(QW e c m).bu=e.bu∧(QW e c m).by_=e.by_∧(QW e c m).wa=e.wa&&& ~~~(bitM c):=by
 obtain ⟨h1,h2,h3,h4,h5,h6⟩:=Qfb e m
 have hw:∀x:En,(Za x c).he=x.he∧(Za x c).ow=(if x.ow=c then -1 else x.ow)∧(Za x c).sh=x.sh&&& ~~~(bitM c)∧(Za x c).bu=x.bu∧(Za x c).by_=x.by_∧(Za x c).wa=x.wa:=by
  intro x;unfold Za;split<;>exact ⟨rfl,by simp [*,En.setOw,En.setSh],rfl,rfl,rfl,rfl⟩
 obtain ⟨a1,a2,a3,a4,a5,a6⟩:=hw (Ze e m)
 unfold QW
 dsimp only
 split
 ·refine ⟨a1.trans h1,(show (Za (Ze e m) c).ow=_ from a2).trans (by rw [h2]),?_,a4.trans h4,a5.trans h5,?_⟩
  ·show (Za (Ze e m) c).sh|||bitM c=_
   rw [a3,h3]
  ·show (Za (Ze e m) c).wa&&& ~~~(bitM c)=_
   rw [a6,h6]
 ·refine ⟨a1.trans h1,(show (Za (Ze e m) c).ow=_ from a2).trans (by rw [h2]),?_,a4.trans h4,a5.trans h5,?_⟩
  ·show (Za (Ze e m) c).sh=_
   rw [a3,h3]
  ·show (Za (Ze e m) c).wa&&& ~~~(bitM c)=_
   rw [a6,h6]
theorem Qhu {e:En} {c:Int} (g:JN e=true) (h:hasM e.wa c=true):e.he=true:=by
 cases hh:e.he
 ·have:e=enE:=by simpa [JN,hh] using g
  subst this
  have:hasM (0#8) c=true:=h
  rw [ZW] at this;cases this
 ·rfl
theorem Qf6 {e:En} {c:Int} {m:Ms} (g:JN e=true) (h:hasM e.wa c=true):
 (QW e c m).ow= -1∧Wp (QW e c m)∧((QW e c m).bu=1∨(QW e c m).bu=2∨(QW e c m).bu=4∨(QW e c m).bu=5):=by
 have hh:=Qhu g h
 obtain ⟨hg,hb⟩:=(YX hh).1 g
 obtain ⟨a1,a2,a3,a4,a5,a6⟩:=Qcj e c m
 have hw:Wp e∧(e.bu=1∨e.bu=2∨e.bu=4∨e.bu=5):=by
  rcases hb with ⟨_,_,h0⟩|⟨h0,h1,_⟩|⟨h0,h1⟩
  ·rw [h0,ZW] at h;cases h
  ·exact ⟨h1,by omega⟩
  ·exact ⟨h1,by omega⟩
 have hcc:isC c=true:=by
  cases hc:isC c
  ·rw [Qgi hc] at h;cases h
  ·rfl
 obtain ⟨k,hk,rfl⟩:=J2 hcc
 have how:e.ow=(k:Int)∨e.ow= -1:=by
  rcases hw.1.2 k hk h with h1|h1
  ·rcases hg with h2|⟨_,h2⟩
   ·exact .inr h2
   ·rw [h2,ZW] at h1;cases h1
  ·exact .inl h1
 refine ⟨?_,⟨by rw [a5];exact hw.1.1,?_⟩,by rw [a4];exact hw.2⟩
 ·rw [a2]
  split
  ·rfl
  ·rcases how with h1|h1
   ·contradiction
   ·exact h1
 ·intro j hj hj2
  rw [a6,Jt,Bool.and_eq_true,Bool.not_eq_true',Qdr,hcc,Bool.true_and,decide_eq_false_iff_not] at hj2
  left
  have hsh:hasM e.sh j=true:=by
   rcases hw.1.2 j hj hj2.1 with h1|h1
   ·exact h1
   ·exfalso
    rcases how with h2|h2
    ·exact hj2.2 (h2.symm.trans h1)
    ·omega
  rw [a3]
  have hx:hasM (e.sh&&& ~~~(bitM (k:Int))) j=true:=by
   rw [Jt,hsh,Qdr,hcc,Bool.true_and,Bool.true_and,Bool.not_eq_true',decide_eq_false_iff_not];exact hj2.2
  split
  ·rw [Qgz,hx];rfl
  ·exact hx
theorem ans_fit {e:En} {c:Int} {m:Ms} (g:JN e=true) (h:hasM e.wa c=true):Fit7 (if (QW e c m).wa≠0#8 then (QW e c m,[]) else YP (QW e c m) m.li):=by
 have hh:=Qhu g h
 obtain ⟨a1,_⟩:=Qcj e c m
 obtain ⟨h1,h2,h3⟩:=Qf6 (m:=m) g h
 have hh':(QW e c m).he=true:=a1.trans hh
 generalize QW e c m=a at *
 split
 ·rename_i hw
  refine ⟨hh',(YX hh').2 ⟨.inl h1,?_⟩,by simp⟩
  rcases h3 with h3|h3|h3|h3
  ·exact .inr (.inl ⟨.inl h3,h2,hw⟩)
  ·exact .inr (.inl ⟨.inr h3,h2,hw⟩)
  ·exact .inr (.inr ⟨.inl h3,h2⟩)
  ·exact .inr (.inr ⟨.inr h3,h2⟩)
 ·unfold YP
  split
  ·exact fit_shared (e:=Js a) hh' h1 ⟨rfl,rfl,rfl⟩ a.by_ h2.1 m.li
  ·split
   ·exact Qil (e:=Js a) hh' ⟨rfl,rfl,rfl⟩ a.by_ h2.1 10 m.li (.inr rfl)
   ·refine ⟨hh',(YX hh').2 ⟨.inl h1,.inr (.inr ⟨by omega,h2⟩)⟩,by simp⟩
theorem push_fit {e:En} (g:Jy e=true):Fit7 ((Js e).setDi false,XC (bitM e.by_) (ms4 14 0 false false)):=by
 have hg:JN e=true:=by simp only [Jy,Bool.and_eq_true] at g;exact g.1.1
 have hb:e.bu=4∨e.bu=5:=by simpa [Jy,Bool.and_eq_true] using (show (e.bu==4||e.bu==5)=true by simp only [Jy,Bool.and_eq_true] at g;exact g.1.2)
 have hh:e.he=true:=by
  cases hh:e.he
  ·have:e=enE:=by simpa [JN,hh] using hg
   subst this
   have:(0:Int)=4∨(0:Int)=5:=hb
   omega
  ·rfl
 obtain ⟨h1,_⟩:=(YX hh).1 hg
 refine ⟨hh,(YX (e:=(Js e).setDi false) hh).2 ⟨h1,.inl ⟨rfl,rfl,rfl⟩⟩,?_⟩
 intro s hs
 obtain ⟨_,h2⟩:=Qhc (show s∈XC (bitM e.by_) (ms4 14 0 false false) from hs)
 have h3:s.m.kd=14:=by rw [h2];rfl
 refine ⟨fun h=>?_,fun h=>?_,fun h=>?_⟩<;>omega
end
section
inductive AOkN (li:Int):Nat→List Int→Nat→List Int→List Ms→Prop
 |askS (l l':List Int):AOkN li 0 l 4 l' [ms4 1 li false false]
 |askM (l l':List Int):AOkN li 0 l 5 l' [ms4 2 li false false]
 |up (l:List Int):AOkN li 1 l 6 l [ms4 2 li false false]
 |outS (l:List Int):AOkN li 1 l 7 l [ms4 3 li false false]
 |outE (l:List Int):AOkN li 2 l 7 l [ms4 3 li false false]
 |outM (l:List Int) (m:Ms) (hk:m.kd=3) (hl:m.li=li) (hd:m.di=true) (hke:m.ke=false) (hm:m.l=l):AOkN li 3 l 9 l [m]
theorem AOk.nat {li:Int} {st st':Int} {l l':List Int} {ms:List Ms} (h:AOk li st l st' l' ms):AOkN li st.toNat l st'.toNat l' ms:=by
 cases h
 ·exact .askS _ _
 ·exact .askM _ _
 ·exact .up _
 ·exact .outS _
 ·exact .outE _
 ·rename_i m hk hl hd hke hm
  exact .outM _ m hk hl hd hke hm
inductive Bs (cur el:List Int):Bool→Bool→Nat→Nat→List Int→List Ms→List Ms→Prop
 |i (l:List Int):Bs cur el false false 0 0 l [] []
 |s1 (l:List Int) (m:Ms) (hm:m.kd=1):Bs cur el false false 0 4 l [m] []
 |s2 (l:List Int):Bs cur el false false 1 4 l [] []
 |m1 (l:List Int) (m:Ms) (hm:m.kd=2):Bs cur el false false 0 5 l [m] []
 |m2 (l:List Int):Bs cur el false false 2 5 l [] []
 |p7 (l:List Int) (a:Ms) (ha:a.kd=11):Bs cur el false false 0 7 l [] [a]
 |p8 (l:List Int) (a:Ms) (ha:a.kd=11):Bs cur el false false 0 8 l [] [a]
 |p9 (l:List Int) (a:Ms) (ha:a.kd=11):Bs cur el false false 0 9 l [] [a]
 |gn (l:List Int) (m:Ms) (hm:m.kd=3):Bs cur el false false 0 8 l [m] []
 |rS (l:List Int) (a:Ms) (ha:a.kd=8) (hl:a.l=cur):Bs cur el false true 0 4 l [] [a]
 |r1:Bs cur el false true 0 1 cur [] []
 |rU1 (m:Ms) (hm:m.kd=2):Bs cur el false true 0 6 cur [m] []
 |rU2:Bs cur el false true 2 6 cur [] []
 |rO (l:List Int) (m:Ms) (hm:m.kd=3) (hd:m.di=false):Bs cur el false true 0 7 l [m] []
 |oE (l:List Int) (a:Ms) (ha:a.kd=9) (hl:a.l=cur) (he:el=cur):Bs cur el true false 0 4 l [] [a]
 |oM (l:List Int) (a:Ms) (ha:a.kd=10) (hl:a.l=cur) (he:el=cur):Bs cur el true false 0 5 l [] [a]
 |oU (a:Ms) (ha:a.kd=10) (hl:a.l=cur) (he:el=cur):Bs cur el true false 0 6 cur [] [a]
 |o2 (he:el=cur):Bs cur el true false 0 2 cur [] []
 |o3:Bs cur el true false 0 3 cur [] []
 |oO (l:List Int) (m:Ms) (hm:m.kd=3) (hd:m.di=false) (he:el=cur):Bs cur el true false 0 7 l [m] []
 |oD (m:Ms) (hm:m.kd=3) (hd:m.di=true) (hl:m.l=cur):Bs cur el true false 0 9 cur [m] []
inductive InU:Nat→List Ms→Prop
 |z:InU 0 []
 |s (m:Ms) (hm:m.kd=1):InU 4 [m]
 |m (m:Ms) (hm:m.kd=2):InU 5 [m]
 |g (m:Ms) (hm:m.kd=3):InU 8 [m]
inductive KeU (cur:List Int):Nat→List Int→List Ms→Prop
 |r:KeU cur 1 cur []
 |u (m:Ms) (hm:m.kd=2):KeU cur 6 cur [m]
 |o (l:List Int) (m:Ms) (hm:m.kd=3) (hd:m.di=false):KeU cur 7 l [m]
inductive Ak (cur el:List Int) (a:Ms):Bool→Bool→Nat→List Int→List Ms→Prop
 |inv (ow sh:Bool) (st:Nat) (l:List Int) (U:List Ms) (hk:a.kd=6) (hke:a.ke=false) (ho:(ow||sh)=true) (hd:a.di=true→ow=true∧a.l=cur) (hc:a.di=false→ow=true→el=cur) (hU:InU st U):Ak cur el a ow sh st l U
 |dnK (st:Nat) (l:List Int) (U:List Ms) (hk:a.kd=7) (hke:a.ke=true) (hd:a.di=true→a.l=cur) (hc:a.di=false→el=cur) (hU:KeU cur st l U):Ak cur el a true false st l U
 |dnG (l:List Int) (m:Ms) (hk:a.kd=7) (hke:a.ke=false) (hd:a.di=true→a.l=cur) (hc:a.di=false→el=cur) (hm:m.kd=3):Ak cur el a true false 8 l [m]
inductive Rel (cur el:List Int) (kt:Int):Bool→Bool→Bool→Nat→Nat→List Int→List Ms→List Ms→List Ms→Prop
 |base {ow sh:Bool} {b st:Nat} {l:List Int} {U D:List Ms} (h:Bs cur el ow sh b st l U D):Rel cur el kt ow sh false b st l U [] D
 |told {ow sh:Bool} {st:Nat} {l:List Int} {U D:List Ms} (a:Ms) (h:Bs cur el ow sh 0 st l U D) (ha:a.kd=kt) (ho:(ow||sh)=true) (h13:kt=13→ow=true):Rel cur el kt ow sh true 0 st l U [] (D++[a])
 |ack {ow sh:Bool} {st:Nat} {l:List Int} {U:List Ms} (a:Ms) (h:Ak cur el a ow sh st l U) (hk:kt=12→a.ke=false):Rel cur el kt ow sh true 0 st l U [a] []
section
variable {cur el:List Int} {kt:Int} {ow sh w:Bool} {b st st':Nat} {l l':List Int} {U N D ms:List Ms}
theorem Bs.ask {li:Int} (h:Bs cur el ow sh b st l U D) (a:AOkN li st l st' l' ms):Bs cur el ow sh b st' l' (U++ms) D:=by
 cases a with
 |askS=>cases h;exact .s1 _ _ rfl
 |askM=>cases h;exact .m1 _ _ rfl
 |up=>cases h;exact .rU1 _ rfl
 |outS=>cases h;exact .rO _ _ rfl rfl
 |outE=>cases h;exact .oO _ _ rfl rfl (by assumption)
 |outM l m hk hl hd hke hm=>cases h;exact .oD _ hk hd hm
theorem Ak.ask {li:Int} {m:Ms} (h:Ak cur el m ow sh st l U) (a:AOkN li st l st' l' ms):Ak cur el m ow sh st' l' (U++ms):=by
 cases h with
 |inv ow sh st l U hk hke ho hd hc hU=>
  refine .inv _ _ _ _ _ hk hke ho hd hc ?_
  cases a with
  |askS=>cases hU;exact .s _ rfl
  |askM=>cases hU;exact .m _ rfl
  |up=>cases hU
  |outS=>cases hU
  |outE=>cases hU
  |outM=>cases hU
 |dnK st l U hk hke hd hc hU=>
  refine .dnK _ _ _ hk hke hd hc ?_
  cases a with
  |askS=>cases hU
  |askM=>cases hU
  |up=>cases hU;exact .u _ rfl
  |outS=>cases hU;exact .o _ _ rfl rfl
  |outE=>cases hU
  |outM=>cases hU
 |dnG=>cases a
theorem Rel.ask {li:Int} (h:Rel cur el kt ow sh w b st l U N D) (a:AOkN li st l st' l' ms):Rel cur el kt ow sh w b st' l' (U++ms) N D:=by
 cases h with
 |base h=>exact .base (h.ask a)
 |told m h ha ho h13=>exact .told m (h.ask a) ha ho h13
 |ack m h hk=>exact .ack m (h.ask a) hk
theorem Bs.write (h:Bs cur el ow sh b st l U D) (hs:st=2∨st=3) (cur':List Int):Bs cur' el ow sh b 3 cur' U D∧l=cur∧ow=true:=by
 rcases hs with rfl|rfl<;>cases h<;>exact ⟨.o3,rfl,rfl⟩
theorem Rel.write (h:Rel cur el kt ow sh w b st l U N D) (hs:st=2∨st=3) (cur':List Int):Rel cur' el kt ow sh w b 3 cur' U N D∧l=cur∧ow=true:=by
 cases h with
 |base h=>exact ⟨.base (h.write hs cur').1,(h.write hs cur').2⟩
 |told m h ha ho h13=>exact ⟨.told m (h.write hs cur').1 ha ho h13,(h.write hs cur').2⟩
 |ack m h=>
  exfalso
  cases h with
  |inv ow sh st l U hk hke ho hd hc hU=>cases hU<;>omega
  |dnK st l U hk hke hd hc hU=>cases hU<;>omega
  |dnG=>omega
theorem Rel.reads (h:Rel cur el kt ow sh w b st l U N D) (hs:st=1∨st=2∨st=3∨st=6):l=cur∧(ow=true∨sh=true)∧((st=2∨st=3)→ow=true):=by
 have hb:∀{b D},Bs cur el ow sh b st l U D→l=cur∧(ow=true∨sh=true)∧((st=2∨st=3)→ow=true):=by
  intro b D h
  rcases hs with rfl|rfl|rfl|rfl<;>cases h<;>simp
 cases h with
 |base h=>exact hb h
 |told m h ha ho h13=>exact hb h
 |ack m h=>
  cases h with
  |inv ow sh st l U hk hke ho hd hc hU=>cases hU<;>omega
  |dnK st l U hk hke hd hc hU=>
   cases hU with
   |r=>simp
   |u m hm=>simp
   |o l m hm hd=>omega
  |dnG=>omega
theorem Bs.anyEl (h:Bs cur el false sh b st l U D) (el':List Int):Bs cur el' false sh b st l U D:=by
 cases h
 all_goals constructor<;>assumption
theorem Rel.anyEl (h:Rel cur el kt false sh w b st l U N D) (el':List Int):Rel cur el' kt false sh w b st l U N D:=by
 cases h with
 |base h=>exact .base (h.anyEl el')
 |told m h ha ho h13=>exact .told m (h.anyEl el') ha ho h13
 |ack m h hk=>
  refine .ack m ?_ hk
  cases h with
  |inv ow sh st l U hk hke ho hd hc hU=>exact .inv _ _ _ _ _ hk hke ho hd (fun _ h=>by cases h) hU
theorem Bs.none (h:Bs cur el false false b st l U D) (cur' el':List Int):Bs cur' el' false false b st l U D:=by
 cases h
 all_goals constructor<;>assumption
theorem Rel.none (h:Rel cur el kt false false w b st l U N D) (cur' el':List Int) (kt':Int):w=false∧N=[]∧Rel cur' el' kt' false false false b st l U [] D:=by
 cases h with
 |base h=>exact ⟨rfl,rfl,.base (h.none cur' el')⟩
 |told m h ha ho h13=>cases ho
 |ack m h=>
  cases h with
  |inv ow sh st l U hk hke ho hd hc hU=>cases ho
theorem Rel.anyKt (h:Rel cur el kt ow sh false b st l U N D) (kt':Int):Rel cur el kt' ow sh false b st l U N D∧N=[]:=by
 cases h with
 |base h=>exact ⟨.base h,rfl⟩
theorem Rel.tell (h:Rel cur el kt ow sh false 0 st l U N D) (kt':Int) (a:Ms) (ha:a.kd=kt') (ho:(ow||sh)=true) (h13:kt'=13→ow=true):Rel cur el kt' ow sh true 0 st l U N (D++[a]):=by
 cases h with
 |base h=>exact .told a h ha ho h13
theorem Rel.getS {m:Ms} {V:List Ms} (h:Rel cur el kt ow sh false b st l (m::V) N D) (hm:m.kd=1):ow=false∧sh=false∧(∀el' kt',Rel cur el' kt' false false false 1 st l V N D)∧
 (∀kt' (a:Ms),a.kd=8→a.l=cur→Rel cur el kt' false true false 0 st l V N (D++[a]))∧(∀kt' (a:Ms),a.kd=9→a.l=cur→el=cur→Rel cur el kt' true false false 0 st l V N (D++[a])):=by
 cases h with
 |base h=>
  cases h with
  |s1 l m hm=>exact ⟨rfl,rfl,fun _ _=>.base (.s2 _),fun _ a h1 h2=>.base (.rS _ a h1 h2),fun _ a h1 h2 h3=>.base (.oE _ a h1 h2 h3)⟩
  |m1 l m hm=>omega
  |gn l m hm=>omega
  |rU1 m hm=>omega
  |rO l m hm hd=>omega
  |oO l m hm hd he=>omega
  |oD m hm hd hl=>omega
theorem Rel.getM {m:Ms} {V:List Ms} (h:Rel cur el kt ow sh false b st l (m::V) N D) (hm:m.kd=2):ow=false∧(∀el' kt',Rel cur el' kt' false sh false 2 st l V N D)∧
 (∀kt' (a:Ms),a.kd=10→a.l=cur→el=cur→Rel cur el kt' true false false 0 st l V N (D++[a])):=by
 cases h with
 |base h=>
  cases h with
  |s1 l m hm=>omega
  |m1 l m hm=>exact ⟨rfl,fun _ _=>.base (.m2 _),fun _ a h1 h2 h3=>.base (.oM _ a h1 h2 h3)⟩
  |gn l m hm=>omega
  |rU1 m hm=>exact ⟨rfl,fun _ _=>.base .rU2,fun _ a h1 h2 h3=>.base (.oU a h1 h2 h3)⟩
  |rO l m hm hd=>omega
  |oO l m hm hd he=>omega
  |oD m hm hd hl=>omega
theorem Rel.put {m:Ms} {V:List Ms} (h:Rel cur el kt ow sh false b st l (m::V) N D) (hm:m.kd=3):(ow=true→(m.di=true→m.l=cur)∧(m.di=false→el=cur))∧
 (∀cur' el' kt' (a:Ms),a.kd=11→Rel cur' el' kt' false false false 0 st l V N (D++[a])):=by
 cases h with
 |base h=>
  cases h with
  |s1 l m hm=>omega
  |m1 l m hm=>omega
  |gn l m hm=>exact ⟨fun h=>(by cases h),fun _ _ _ a h1=>.base (.p8 _ a h1)⟩
  |rU1 m hm=>omega
  |rO l m hm hd=>exact ⟨fun h=>(by cases h),fun _ _ _ a h1=>.base (.p7 _ a h1)⟩
  |oO l m hm hd he=>exact ⟨fun _=>⟨fun h=>absurd (hd.symm.trans h) (by decide),fun _=>he⟩,fun _ _ _ a h1=>.base (.p7 _ a h1)⟩
  |oD m hm hd hl=>exact ⟨fun _=>⟨fun _=>hl,fun h=>absurd (hd.symm.trans h) (by decide)⟩,fun _ _ _ a h1=>.base (.p9 _ a h1)⟩
theorem Rel.settleS (h:Rel cur el kt ow sh w 1 st l U N D):w=false∧ow=false∧sh=false∧∀kt' (a:Ms),a.kd=8→a.l=cur→∀el',Rel cur el' kt' false true false 0 st l U N (D++[a]):=by
 cases h with
 |base h=>
  cases h with
  |s2 l=>exact ⟨rfl,rfl,rfl,fun _ a h1 h2 _=>.base (.rS _ a h1 h2)⟩
theorem Rel.settleM (h:Rel cur el kt ow sh w 2 st l U N D):w=false∧ow=false∧∀kt' (a:Ms),a.kd=10→a.l=cur→∀el',el'=cur→Rel cur el' kt' true false false 0 st l U N (D++[a]):=by
 cases h with
 |base h=>
  cases h with
  |m2 l=>exact ⟨rfl,rfl,fun _ a h1 h2 _ h3=>.base (.oM _ a h1 h2 h3)⟩
  |rU2=>exact ⟨rfl,rfl,fun _ a h1 h2 _ h3=>.base (.oU a h1 h2 h3)⟩
theorem Ak.done {a:Ms} (h:Ak cur el a ow sh st l U) (el':List Int):Bs cur el' false a.ke 0 st l U []∧(ow=true→(a.di=true→a.l=cur)∧(a.di=false→el=cur))∧(ow=false→a.di=false):=by
 cases h with
 |inv ow sh st l U hk hke ho hd hc hU=>
  refine ⟨?_,fun h=>⟨fun h1=>(hd h1).2,fun h1=>hc h1 h⟩,fun h=>?_⟩
  ·rw [hke]
   cases hU with
   |z=>exact .i _
   |s m hm=>exact .s1 _ _ hm
   |m m hm=>exact .m1 _ _ hm
   |g m hm=>exact .gn _ _ hm
  ·cases h1:a.di
   ·rfl
   ·have:=(hd h1).1;rw [h] at this;cases this
 |dnK st l U hk hke hd hc hU=>
  refine ⟨?_,fun h=>⟨hd,hc⟩,fun h=>by cases h⟩
  rw [hke]
  cases hU with
  |r=>exact .r1
  |u m hm=>exact .rU1 _ hm
  |o l m hm hd=>exact .rO _ _ hm hd
 |dnG l m hk hke hd hc hm=>exact ⟨by rw [hke];exact .gn _ _ hm,fun h=>⟨hd,hc⟩,fun h=>by cases h⟩
theorem Rel.answer {a:Ms} {V:List Ms} (h:Rel cur el kt ow sh w b st l U (a::V) D):w=true∧V=[]∧b=0∧(ow||sh)=true∧(∀el' kt',Rel cur el' kt' false a.ke false 0 st l U V D)∧(ow=true→(a.di=true→a.l=cur)∧(a.di=false→el=cur))∧(ow=false→a.di=false)∧(kt=12→a.ke=false):=by
 cases h with
 |ack m h hk=>
  refine ⟨rfl,rfl,rfl,?_,fun el' _=>.base (h.done el').1,(h.done el).2.1,(h.done el).2.2,hk⟩
  cases h with
  |inv ow sh st l U hk hke ho hd hc hU=>exact ho
  |dnK=>rfl
  |dnG=>rfl
def HV (m:Ms) (x:Slt) (st':Int) (l':List Int):Prop:=
 (tb m.kd x.st=10→st'=0)∧(tb m.kd x.st=11→st'=x.st∧l'=x.l)∧(tb m.kd x.st≠10→tb m.kd x.st≠11→st'=tb m.kd x.st∧l'=Y4 m x (tb m.kd x.st))
theorem HV.drop {m:Ms} {x:Slt} {st':Int} {l':List Int} (h:HV m x st' l') (ht:tb m.kd x.st=10):st'.toNat=0:=by rw [h.1 ht];rfl
theorem HV.becomes {m:Ms} {x:Slt} {st':Int} {l':List Int} (h:HV m x st' l') {n:Nat} (ht:tb m.kd x.st=(n:Int)) (hn:n<10):st'.toNat=n∧l'=Y4 m x n:=by
 obtain ⟨a,b⟩:=h.2.2 (by omega) (by omega)
 rw [ht] at a b
 exact ⟨by omega,b⟩
theorem nat_of {x:Int} {n:Nat} (h0:0≤x) (h:x.toNat=n):x=(n:Int):=by omega
theorem Bs.hear {m:Ms} {V:List Ms} {x:Slt} (h0:0≤x.st) (hst:x.st.toNat=st) (h:Bs cur el ow sh b st x.l U (m::V)) {st':Int} {l':List Int} (hv:HV m x st' l'):
 tb m.kd x.st≠0∧V=[]∧Xh m.kd x (tb m.kd x.st)=[]∧Bs cur el ow sh b st'.toNat l' U []:=by
 have hs:=nat_of h0 hst
 generalize hxl:x.l=xl at h
 cases h with
 |p7 l a ha=>
  have ht:tb m.kd x.st=10:=by rw [ha,hs];rfl
  rw [hv.drop ht,ht,ha];exact ⟨by decide,rfl,rfl,.i _⟩
 |p8 l a ha=>
  have ht:tb m.kd x.st=10:=by rw [ha,hs];rfl
  rw [hv.drop ht,ht,ha];exact ⟨by decide,rfl,rfl,.i _⟩
 |p9 l a ha=>
  have ht:tb m.kd x.st=10:=by rw [ha,hs];rfl
  rw [hv.drop ht,ht,ha];exact ⟨by decide,rfl,rfl,.i _⟩
 |rS l a ha hl=>
  have ht:tb m.kd x.st=((1:Nat):Int):=by rw [ha,hs];rfl
  obtain ⟨e1,e2⟩:=hv.becomes ht (by decide)
  rw [show Y4 m x ((1:Nat):Int)=cur by unfold Y4;rw [if_neg (by decide),if_neg (by omega),hl]] at e2
  rw [e1,e2,ht,ha];exact ⟨by decide,rfl,rfl,.r1⟩
 |oE l a ha hl he=>
  have ht:tb m.kd x.st=((2:Nat):Int):=by rw [ha,hs];rfl
  obtain ⟨e1,e2⟩:=hv.becomes ht (by decide)
  rw [show Y4 m x ((2:Nat):Int)=cur by unfold Y4;rw [if_neg (by decide),if_neg (by omega),hl]] at e2
  rw [e1,e2,ht,ha];exact ⟨by decide,rfl,rfl,.o2 he⟩
 |oM l a ha hl he=>
  have ht:tb m.kd x.st=((2:Nat):Int):=by rw [ha,hs];rfl
  obtain ⟨e1,e2⟩:=hv.becomes ht (by decide)
  rw [show Y4 m x ((2:Nat):Int)=cur by unfold Y4;rw [if_neg (by decide),if_neg (by omega),hl]] at e2
  rw [e1,e2,ht,ha];exact ⟨by decide,rfl,rfl,.o2 he⟩
 |oU a ha hl he=>
  have ht:tb m.kd x.st=((2:Nat):Int):=by rw [ha,hs];rfl
  obtain ⟨e1,e2⟩:=hv.becomes ht (by decide)
  rw [show Y4 m x ((2:Nat):Int)=cur by unfold Y4;rw [if_neg (by decide),if_neg (by omega),hl]] at e2
  rw [e1,e2,ht,ha];exact ⟨by decide,rfl,rfl,.o2 he⟩
theorem Bs.gives {m:Ms} {x:Slt} (h0:0≤x.st) (hst:x.st.toNat=st) (h:Bs cur el ow sh 0 st x.l U []) (hm:m.kd=12∨m.kd=13∧ow=true) (ho:(ow||sh)=true) {st':Int} {l':List Int} (hv:HV m x st' l'):
 tb m.kd x.st≠0∧∃a,Xh m.kd x (tb m.kd x.st)=[a]∧(m.kd=12→a.ke=false)∧Ak cur el a ow sh st'.toNat l' U:=by
 have hs:=nat_of h0 hst
 have hc:∀kd ke,x.st≠3→x.st≠9→JT kd x ke=ms4 kd x.li false ke:=fun kd ke h1 h2=>by unfold JT;rw [if_neg (by omega)]
 have hd:∀kd ke,x.st=3∨x.st=9→JT kd x ke=⟨kd,x.li,true,ke,x.l,x.h⟩:=fun kd ke h1=>by unfold JT;rw [if_pos h1]
 have hke:(JT 6 x false).ke=false:=by unfold JT;split<;>rfl
 rcases hm with hm|⟨hm,rfl⟩
 ·have ha:∀t,Xh m.kd x t=[JT 6 x false]:=fun t=>by unfold Xh;rw [if_pos hm]
  generalize hxl:x.l=xl at h
  cases h with
  |i=>cases ho
  |s1=>cases ho
  |m1=>cases ho
  |gn=>cases ho
  |r1=>
   have ht:tb m.kd x.st=10:=by rw [hm,hs];rfl
   rw [hv.drop ht]
   exact ⟨by rw [ht];decide,_,ha _,fun _=>hke,by rw [hc _ _ (by omega) (by omega)];exact .inv _ _ _ _ _ rfl rfl rfl (fun h=>by cases h) (fun _ h=>by cases h) .z⟩
  |rU1 m' hm'=>
   have ht:tb m.kd x.st=((5:Nat):Int):=by rw [hm,hs];rfl
   obtain ⟨e1,e2⟩:=hv.becomes ht (by decide)
   rw [e1]
   exact ⟨by rw [ht];decide,_,ha _,fun _=>hke,by rw [hc _ _ (by omega) (by omega)];exact .inv _ _ _ _ _ rfl rfl rfl (fun h=>by cases h) (fun _ h=>by cases h) (.m _ hm')⟩
  |rO l m' hm' hd'=>
   have ht:tb m.kd x.st=((8:Nat):Int):=by rw [hm,hs];rfl
   obtain ⟨e1,e2⟩:=hv.becomes ht (by decide)
   rw [e1]
   exact ⟨by rw [ht];decide,_,ha _,fun _=>hke,by rw [hc _ _ (by omega) (by omega)];exact .inv _ _ _ _ _ rfl rfl rfl (fun h=>by cases h) (fun _ h=>by cases h) (.g _ hm')⟩
  |o2 he=>
   have ht:tb m.kd x.st=10:=by rw [hm,hs];rfl
   rw [hv.drop ht]
   exact ⟨by rw [ht];decide,_,ha _,fun _=>hke,by rw [hc _ _ (by omega) (by omega)];exact .inv _ _ _ _ _ rfl rfl rfl (fun h=>by cases h) (fun _ _=>he) .z⟩
  |o3=>
   have ht:tb m.kd x.st=10:=by rw [hm,hs];rfl
   rw [hv.drop ht]
   exact ⟨by rw [ht];decide,_,ha _,fun _=>hke,by rw [hd _ _ (by omega)];exact .inv _ _ _ _ _ rfl rfl rfl (fun _=>⟨rfl,hxl⟩) (fun h=>by cases h) .z⟩
  |oO l m' hm' hd' he=>
   have ht:tb m.kd x.st=((8:Nat):Int):=by rw [hm,hs];rfl
   obtain ⟨e1,e2⟩:=hv.becomes ht (by decide)
   rw [e1]
   exact ⟨by rw [ht];decide,_,ha _,fun _=>hke,by rw [hc _ _ (by omega) (by omega)];exact .inv _ _ _ _ _ rfl rfl rfl (fun h=>by cases h) (fun _ _=>he) (.g _ hm')⟩
  |oD m' hm' hd' hl'=>
   have ht:tb m.kd x.st=((8:Nat):Int):=by rw [hm,hs];rfl
   obtain ⟨e1,e2⟩:=hv.becomes ht (by decide)
   rw [e1]
   exact ⟨by rw [ht];decide,_,ha _,fun _=>hke,by rw [hd _ _ (by omega)];exact .inv _ _ _ _ _ rfl rfl rfl (fun _=>⟨rfl,hxl⟩) (fun h=>by cases h) (.g _ hm')⟩
 ·have ha:∀t,Xh m.kd x t=[JT 7 x (t==1)]:=fun t=>by unfold Xh;rw [if_neg (by omega),if_pos hm]
  generalize hxl:x.l=xl at h
  cases h with
  |o2 he=>
   have ht:tb m.kd x.st=((1:Nat):Int):=by rw [hm,hs];rfl
   obtain ⟨e1,e2⟩:=hv.becomes ht (by decide)
   rw [show Y4 m x ((1:Nat):Int)=cur by unfold Y4;rw [if_neg (by decide),if_pos hm,hxl]] at e2
   rw [e1,e2]
   exact ⟨by rw [ht];decide,_,ha _,fun h=>absurd (hm.symm.trans h) (by decide),by rw [ht,hc _ _ (by omega) (by omega)];exact .dnK _ _ _ rfl rfl (fun h=>by cases h) (fun _=>he) .r⟩
  |o3=>
   have ht:tb m.kd x.st=((1:Nat):Int):=by rw [hm,hs];rfl
   obtain ⟨e1,e2⟩:=hv.becomes ht (by decide)
   rw [show Y4 m x ((1:Nat):Int)=cur by unfold Y4;rw [if_neg (by decide),if_pos hm,hxl]] at e2
   rw [e1,e2]
   exact ⟨by rw [ht];decide,_,ha _,fun h=>absurd (hm.symm.trans h) (by decide),by rw [ht,hd _ _ (by omega)];exact .dnK _ _ _ rfl rfl (fun _=>hxl) (fun h=>by cases h) .r⟩
  |oO l m' hm' hd' he=>
   have ht:tb m.kd x.st=((8:Nat):Int):=by rw [hm,hs];rfl
   obtain ⟨e1,e2⟩:=hv.becomes ht (by decide)
   rw [e1]
   exact ⟨by rw [ht];decide,_,ha _,fun h=>absurd (hm.symm.trans h) (by decide),by rw [ht,hc _ _ (by omega) (by omega)];exact .dnG _ _ rfl rfl (fun h=>by cases h) (fun _=>he) hm'⟩
  |oD m' hm' hd' hl'=>
   have ht:tb m.kd x.st=((8:Nat):Int):=by rw [hm,hs];rfl
   obtain ⟨e1,e2⟩:=hv.becomes ht (by decide)
   rw [e1]
   exact ⟨by rw [ht];decide,_,ha _,fun h=>absurd (hm.symm.trans h) (by decide),by rw [ht,hd _ _ (by omega)];exact .dnG _ _ rfl rfl (fun _=>hxl) (fun h=>by cases h) hm'⟩
theorem Bs.one (h:Bs cur el ow sh b st l U D):D=[]∨∃a,D=[a]:=by
 cases h<;>simp
theorem Rel.hear {m:Ms} {V:List Ms} {x:Slt} (h0:0≤x.st) (hkt:kt=12∨kt=13) (h:Rel cur el kt ow sh w b x.st.toNat x.l U N (m::V)) {st':Int} {l':List Int} (hv:HV m x st' l'):
 tb m.kd x.st≠0∧Rel cur el kt ow sh w b st'.toNat l' U (N++Xh m.kd x (tb m.kd x.st)) V:=by
 generalize hst:x.st.toNat=st at h
 generalize hxl:x.l=xl at h
 generalize hDD:m::V=DD at h
 cases h with
 |base h=>
  subst hDD hxl
  obtain ⟨a1,rfl,a3,a4⟩:=h.hear h0 hst hv
  rw [a3]
  exact ⟨a1,.base a4⟩
 |told a h ha ho h13=>
  subst hxl
  rcases h.one with rfl|⟨d,rfl⟩
  ·simp only [List.nil_append,List.cons.injEq] at hDD
   obtain ⟨rfl,rfl⟩:=hDD
   obtain ⟨a1,r,a2,ake,a3⟩:=h.gives (m:=m) h0 hst (by rcases hkt with h1|h1;exact .inl (ha.trans h1);exact .inr ⟨ha.trans h1,h13 h1⟩) ho hv
   rw [a2]
   exact ⟨a1,.ack r a3 (fun h1=>ake (ha.trans h1))⟩
  ·simp only [List.cons_append,List.nil_append,List.cons.injEq] at hDD
   obtain ⟨rfl,rfl⟩:=hDD
   obtain ⟨a1,_,a3,a4⟩:=h.hear h0 hst hv
   rw [a3]
   exact ⟨a1,.told (D:=[]) a a4 ha ho h13⟩
 |ack a h=>cases hDD
end
end
section
def ktOf (e:En):Int:=if e.bu=2∨e.bu=5 then 12 else 13
theorem ktOf_or (e:En):ktOf e=12∨ktOf e=13:=by unfold ktOf;split<;>simp
def bOf (e:En) (k:Nat):Nat:=if e.by_=(k:Int) then (if e.bu=1 then 1 else if e.bu=2 then 2 else 0) else 0
def Lo (n:Nat) (e:En):Prop:=e.ow<n∧e.by_<n∧(∀k:Nat,k<8→hasM e.sh k=true→k<n)∧∀k:Nat,k<8→hasM e.wa k=true→k<n
structure LI (co:Nat) (cur X:List Int) (e:En) (st:Nat→Nat) (l:Nat→List Int) (U N D:Nat→List Ms):Prop where
 good:JN e=true
 lo:Lo co e
 rel:∀j:Nat,j<co→Rel cur e.l (ktOf e) (decide (e.ow=(j:Int))) (hasM e.sh j) (hasM e.wa j) (bOf e j) (st j) (l j) (U j) (N j) (D j)
 data:e.he=true→e.ow= -1→e.l=cur
 mem0:e.he=false→X=cur
 mem1:e.he=true→e.di=false→X=e.l
 wait1:e.bu=1→e.ow≠ -1→hasM e.wa e.ow=true
 wait2:e.bu=2→∀j:Nat,j<8→(hasM e.sh j=true∨e.ow=(j:Int))→(j:Int)≠e.by_→hasM e.wa j=true
def Qci (e:En) (l:List Int) (h:l.length=8):En:=if e.he=true then e else (e.setHe true).setL l h
def Qew (li:Int) (a:Ms):Prop:=mg a=true∧Y5 a.kd=true∧a.li=li∧a.kd≠14
theorem Qey {li:Int} (h:Qc8 li=true) (kt:Int) (hk:kt=11∨kt=12∨kt=13):Qew li (ms4 kt li false false):=by
 refine ⟨?_,?_,rfl,by show kt≠14;omega⟩
 ·rcases hk with rfl|rfl|rfl<;>simp [mg,ms4,Qc9,h]
 ·rcases hk with rfl|rfl|rfl<;>rfl
theorem Qhx {li:Int} (h:Qc8 li=true) (kt:Int) (hk:kt=8∨kt=9∨kt=10) (l:List Int) (hl:l.length=8):Qew li (ms5 kt li l hl):=by
 refine ⟨?_,?_,rfl,by show kt≠14;omega⟩
 ·rcases hk with rfl|rfl|rfl<;>simp [mg,ms5,Qc9,mayW,h]
 ·rcases hk with rfl|rfl|rfl<;>rfl
theorem bOf_0 {e:En} (h:e.bu=0) (k:Nat):bOf e k=0:=by unfold bOf;rw [h];simp
theorem bOf_ne {e:En} {k:Nat} (h:e.by_≠(k:Int)):bOf e k=0:=by unfold bOf;rw [if_neg h]
theorem bOf_fl {e:En} (k:Nat) (h:e.bu=4∨e.bu=5):bOf e k=0:=by unfold bOf;rcases h with h|h<;>rw [h]<;>simp
theorem Yk (c:Int) (hc:isC c=true) (j:Nat):hasM (bitM c) (j:Int)=decide (c=(j:Int)):=by rw [Qdr,hc,Bool.true_and]
section
variable {co:Nat} {cur X:List Int} {e:En} {st:Nat→Nat} {l:Nat→List Int} {U N D:Nat→List Ms}
theorem LI.free (h:LI co cur X e st l U N D) (hh:e.he=true) (hb:e.bu=0):Gp e∧e.by_=0∧e.wa=0#8∧∀j:Nat,j<co→Rel cur e.l (ktOf e) (decide (e.ow=(j:Int))) (hasM e.sh j) false 0 (st j) (l j) (U j) (N j) (D j):=by
 obtain ⟨h1,_,h2,h3⟩:=busy0 hh h.good hb
 refine ⟨h1,h2,h3,fun j hj=>?_⟩
 have:=h.rel j hj
 rw [h3,ZW,bOf_0 hb] at this
 exact this
theorem LI.here (h:LI co cur X e st l U N D) (hX:X.length=8):LI co cur X (Qci e X hX) st l U N D∧(Qci e X hX).he=true∧(Qci e X hX).bu=e.bu:=by
 unfold Qci
 by_cases hh:e.he=true
 ·rw [if_pos hh];exact ⟨h,hh,rfl⟩
 ·rw [if_neg hh]
  have hh':e.he=false:=by simpa using hh
  have he:e=enE:=by
   have:=h.good
   unfold JN at this
   rw [if_neg hh] at this
   simpa using this
  have hc:=h.mem0 hh'
  have hr:=h.rel
  subst he
  refine ⟨⟨by simp [JN,Qfr,Qca,En.setHe,En.setL,enE],h.lo,?_,fun _ _=>hc,fun h1=>absurd (show true=false from h1) (by decide),fun _ _=>rfl,fun h1=>absurd (show (0:Int)=1 from h1) (by decide),fun h1=>absurd (show (0:Int)=2 from h1) (by decide)⟩,rfl,rfl⟩
  intro j hj
  have h1:=hr j hj
  have e1:decide (((enE.setHe true).setL X hX).ow=(j:Int))=false:=by
   show decide ((-1:Int)=(j:Int))=false
   exact decide_eq_false (by omega)
  have e2:decide (enE.ow=(j:Int))=false:=e1
  rw [e2] at h1
  rw [e1]
  exact h1.anyEl _
theorem LI.waits (h:LI co cur X e st l U N D) (h8:co≤8) (hh:e.he=true) (hb:e.bu=0) {k:Nat} (hk:k<co) {m:Ms} {kt:Int} {o:Mk} (hkt:kt=if m.kd=2∨m.kd=5 then 12 else 13) (hkd:m.kd=1∨m.kd=2∨m.kd=4∨m.kd=5)
 (hg:JN (J0 e k m o kt).1=true) (ho:∀j:Nat,j<8→hasM o j=true→hasM e.sh j=true∨e.ow=(j:Int)) (h13:kt=13→∀j:Nat,j<8→hasM o j=true→e.ow=(j:Int))
 {U':Nat→List Ms} (hU:∀j,j≠k→U' j=U j) (hU2:m.kd=4∨m.kd=5→U' k=U k) (hR:m.kd=1∨m.kd=2→hasM o k=false∧Rel cur e.l kt (decide (e.ow=(k:Int))) (hasM e.sh k) false m.kd.toNat (st k) (l k) (U' k) (N k) (D k))
 (w1:m.kd=1→e.ow≠ -1→hasM o e.ow=true) (w2:m.kd=2→∀j:Nat,j<8→(hasM e.sh j=true∨e.ow=(j:Int))→(j:Int)≠k→hasM o j=true):
 LI co cur X (J0 e k m o kt).1 st l U' N (fun j=>D j++if hasM o j=true then [ms4 kt m.li false false] else []):=by
 obtain ⟨g1,g2,g3,hr⟩:=h.free hh hb
 refine ⟨hg,⟨h.lo.1,by show (k:Int)<co;omega,h.lo.2.2.1,?_⟩,?_,h.data,h.mem0,h.mem1,w1,w2⟩
 ·intro j hj h1
  rcases ho j hj h1 with h2|h2
  ·exact h.lo.2.2.1 j hj h2
  ·have:=h.lo.1;omega
 ·intro j hj
  have hkt':ktOf (J0 e k m o kt).1=kt:=by rw [hkt];rfl
  rw [hkt']
  show Rel cur e.l kt (decide (e.ow=(j:Int))) (hasM e.sh j) (hasM o j) (bOf (J0 e k m o kt).1 j) (st j) (l j) (U' j) (N j) (D j++if hasM o j=true then [ms4 kt m.li false false] else [])
  have hby:(J0 e k m o kt).1.by_=(k:Int):=rfl
  have hbu:(J0 e k m o kt).1.bu=m.kd:=rfl
  by_cases hjk:j=k
  ·subst hjk
   by_cases hf:m.kd=4∨m.kd=5
   ·rw [hU2 hf,bOf_fl j (by rw [hbu];exact hf)]
    cases h1:hasM o (j:Int)
    ·simp only [Bool.false_eq_true,if_false,List.append_nil]
     exact ((hr j hj).anyKt kt).1
    ·rw [if_pos rfl]
     refine (hr j hj).tell kt _ rfl ?_ ?_
     ·rcases ho j (by omega) h1 with h2|h2<;>simp [h2]
     ·intro h2;simpa using h13 h2 j (by omega) h1
   ·have h12:m.kd=1∨m.kd=2:=by omega
    obtain ⟨a,b⟩:=hR h12
    rw [a]
    simp only [Bool.false_eq_true,if_false,List.append_nil]
    have:bOf (J0 e j m o kt).1 j=m.kd.toNat:=by
     unfold bOf
     rw [if_pos hby,hbu]
     rcases h12 with h|h<;>rw [h]<;>rfl
    rw [this]
    exact b
  ·rw [hU j hjk,bOf_ne (by rw [hby];omega)]
   cases h1:hasM o (j:Int)
   ·simp only [Bool.false_eq_true,if_false,List.append_nil]
    exact ((hr j hj).anyKt kt).1
   ·rw [if_pos rfl]
    refine (hr j hj).tell kt _ rfl ?_ ?_
    ·rcases ho j (by omega) h1 with h2|h2<;>simp [h2]
    ·intro h2;simpa using h13 h2 j (by omega) h1
theorem LI.owns {kt0:Int} (h8:co≤8) (hh:e.he=true) (hb:e.bu=0) (hby:e.by_=0) (hw:e.wa=0#8) {k:Nat} (hk:k<co) {kd li:Int} (hg:JN (JI e k kd li).1=true) (hc:e.l=cur)
 (hm1:e.di=false→X=e.l) (hn:∀j:Nat,j<co→j≠k→hasM e.sh j=false∧e.ow≠(j:Int)) {U':Nat→List Ms} (hr:∀j:Nat,j<co→j≠k→Rel cur e.l kt0 (decide (e.ow=(j:Int))) (hasM e.sh j) false 0 (st j) (l j) (U' j) (N j) (D j))
 (hR:∀a:Ms,a.kd=kd→a.l=cur→Rel cur e.l 13 true false false 0 (st k) (l k) (U' k) (N k) (D k++[a])):
 LI co cur X (JI e k kd li).1 st l U' N (fun j=>D j++if hasM (bitM (k:Int)) j=true then [ms5 kd li e.l e.h] else []):=by
 have hbu:(JI e k kd li).1.bu=0:=hb
 refine ⟨hg,⟨by show (k:Int)<co;omega,by show e.by_<co;omega,fun j _ h1=>?_,fun j _ h1=>?_⟩,?_,fun _ h1=>?_,fun h1=>?_,fun _=>hm1,fun h1=>?_,fun h1=>?_⟩
 ·have h2:hasM 0#8 (j:Int)=true:=h1
  rw [ZW] at h2;cases h2
 ·have h2:hasM e.wa (j:Int)=true:=h1
  rw [hw,ZW] at h2;cases h2
 ·intro j hj
  show Rel cur e.l (ktOf (JI e k kd li).1) (decide ((k:Int)=(j:Int))) (hasM 0#8 j) (hasM e.wa j) (bOf (JI e k kd li).1 j) (st j) (l j) (U' j) (N j) (D j++if hasM (bitM (k:Int)) j=true then [ms5 kd li e.l e.h] else [])
  rw [bOf_0 hbu,hw,ZW,Yk _ (Qb8 (by omega)),show ktOf (JI e k kd li).1=13 by unfold ktOf;rw [hbu];rfl]
  by_cases hjk:j=k
  ·subst hjk
   rw [decide_eq_true rfl,if_pos rfl]
   exact hR _ rfl hc
  ·rw [decide_eq_false (by omega)]
   simp only [Bool.false_eq_true,if_false,List.append_nil]
   have h1:=hr j hj hjk
   obtain ⟨h2,h3⟩:=hn j hj hjk
   rw [h2,decide_eq_false h3] at h1
   obtain ⟨_,h4,h5⟩:=h1.none cur e.l 13
   rw [h4];exact h5
 ·have h2:(k:Int)= -1:=h1
  omega
 ·exact absurd (hh.symm.trans h1) (by decide)
 ·exact absurd (hbu.symm.trans h1) (by decide)
 ·exact absurd (hbu.symm.trans h1) (by decide)
theorem LI.shares {kt0:Int} (h8:co≤8) (hh:e.he=true) (hb:e.bu=0) (hby:e.by_=0) (hw:e.wa=0#8) {k:Nat} (hk:k<co) {li:Int} (hg:JN (Jq e k li).1=true) (hc:e.l=cur) (hlo:∀j:Nat,j<8→hasM e.sh j=true→j<co)
 (hm1:e.di=false→X=e.l) (hn:e.ow= -1) {U':Nat→List Ms} (hr:∀j:Nat,j<co→j≠k→Rel cur e.l kt0 (decide (e.ow=(j:Int))) (hasM e.sh j) false 0 (st j) (l j) (U' j) (N j) (D j))
 (hR:∀a:Ms,a.kd=8→a.l=cur→Rel cur e.l 13 false true false 0 (st k) (l k) (U' k) (N k) (D k++[a])):
 LI co cur X (Jq e k li).1 st l U' N (fun j=>D j++if hasM (bitM (k:Int)) j=true then [ms5 8 li e.l e.h] else []):=by
 have hbu:(Jq e k li).1.bu=0:=hb
 have hkC:isC (k:Int)=true:=Qb8 (by omega)
 refine ⟨hg,⟨by show e.ow<co;omega,by show e.by_<co;omega,fun j hj h1=>?_,fun j _ h1=>?_⟩,?_,fun _ _=>hc,fun h1=>?_,fun _=>hm1,fun h1=>?_,fun h1=>?_⟩
 ·have h2:hasM (e.sh|||bitM (k:Int)) (j:Int)=true:=h1
  rw [Qgz,Yk _ hkC,Bool.or_eq_true,decide_eq_true_eq] at h2
  rcases h2 with h2|h2
  ·exact hlo j hj h2
  ·omega
 ·have h2:hasM e.wa (j:Int)=true:=h1
  rw [hw,ZW] at h2;cases h2
 ·intro j hj
  show Rel cur e.l (ktOf (Jq e k li).1) (decide (e.ow=(j:Int))) (hasM (e.sh|||bitM (k:Int)) j) (hasM e.wa j) (bOf (Jq e k li).1 j) (st j) (l j) (U' j) (N j) (D j++if hasM (bitM (k:Int)) j=true then [ms5 8 li e.l e.h] else [])
  rw [bOf_0 hbu,hw,ZW,Qgz,Yk _ hkC,show ktOf (Jq e k li).1=13 by unfold ktOf;rw [hbu];rfl]
  by_cases hjk:j=k
  ·subst hjk
   rw [decide_eq_true rfl,if_pos rfl,Bool.or_true,decide_eq_false (by omega)]
   exact hR _ rfl hc
  ·rw [decide_eq_false (show ¬(k:Int)=(j:Int) by omega),Bool.or_false]
   simp only [Bool.false_eq_true,if_false,List.append_nil]
   exact ((hr j hj hjk).anyKt 13).1
 ·exact absurd (hh.symm.trans h1) (by decide)
 ·exact absurd (hbu.symm.trans h1) (by decide)
 ·exact absurd (hbu.symm.trans h1) (by decide)
theorem LI.deed (h:LI co cur X e st l U N D) (h8:co≤8) (hh:e.he=true) (hb:e.bu=0) {k:Nat} (hk:k<co) {m:Ms} (hm:Qeq m.kd=true) (hli:Qc8 m.li=true) {V:List Ms} (hU:m.kd≤3→U k=m::V):
 ∃(o:Mk) (a:Ms),(YT e k m).2=XC o a∧Qew m.li a∧(∀j:Nat,j<8→hasM o j=true→j<co)∧
  LI co cur X (YT e k m).1 st l (fun j=>if m.kd≤3∧j=k then V else U j) N (fun j=>D j++if hasM o j=true then [a] else []):=by
 obtain ⟨g1,g2,g3,hr⟩:=h.free hh hb
 have hkC:isC (k:Int)=true:=Qb8 (by omega)
 have fit:=ask_fit h.good hh hb hkC hm
 have hkk:m.kd=1∨m.kd=2∨m.kd=3∨m.kd=4∨m.kd=5:=by simp [Qeq] at hm;omega
 have hown:∀j:Nat,e.ow=(j:Int)→j<co:=fun j hj=>by have:=h.lo.1;omega
 have hoB:∀j:Nat,hasM (bitM (k:Int)) (j:Int)=true→j<co:=fun j hj=>by rw [Yk _ hkC,decide_eq_true_eq] at hj;omega
 rcases hkk with kd|kd|kd|kd|kd
 ·rw [show YT e k m=Qe3 e k m by simp [YT,kd]] at fit ⊢
  have hUk:=hU (by omega)
  have hrk:=hr k hk
  rw [hUk] at hrk
  obtain ⟨n1,n2,r1,r2,r3⟩:=hrk.getS kd
  have n1':e.ow≠(k:Int):=by simpa using n1
  unfold Qe3 at fit ⊢
  by_cases hc:e.ow≠ -1∧e.ow≠k
  ·rw [if_pos hc] at fit ⊢
   have hoC:isC e.ow=true:=by
    rcases g1 with h1|h1
    ·exact absurd h1 hc.1
    ·exact h1.1
   refine ⟨_,_,rfl,Qey hli 13 (by omega),fun j _ h1=>?_,?_⟩
   ·rw [Yk _ hoC,decide_eq_true_eq] at h1;exact hown j h1
   ·refine h.waits h8 hh hb hk (kt:=13) (by rw [kd];rfl) (.inl kd) fit.2.1 Qho ?_ ?_ ?_ ?_ (fun _ _=>has_self hoC) (fun h1=>by omega)
    ·intro _ j _ h1;rw [Yk _ hoC,decide_eq_true_eq] at h1;exact h1
    ·intro j hj;simp [hj]
    ·intro h1;omega
    ·intro _
     refine ⟨by rw [Yk _ hoC];simpa using hc.2,?_⟩
     simp only [and_true,if_pos (show m.kd≤3 by omega)]
     rw [n1,n2,kd]
     exact r1 _ _
  ·rw [if_neg hc] at fit ⊢
   have hone:e.ow= -1:=by
    by_cases h1:e.ow= -1
    ·exact h1
    ·exact absurd ⟨h1,n1'⟩ hc
   by_cases hs:e.sh=0#8
   ·rw [if_pos hs] at fit ⊢
    refine ⟨_,_,rfl,Qhx hli 9 (by omega) _ _,fun j _ h1=>hoB j h1,?_⟩
    refine LI.owns h8 hh hb g2 g3 hk fit.2.1 (h.data hh hone) (h.mem1 hh) ?_ (kt0:=ktOf e) ?_ ?_
    ·intro j _ _;exact ⟨by rw [hs,ZW],by omega⟩
    ·intro j hj hjk
     rw [if_neg (by simp [hjk])]
     exact hr j hj
    ·intro a h1 h2
     simp only [and_true,if_pos (show m.kd≤3 by omega)]
     exact r3 _ a h1 h2 (h.data hh hone)
   ·rw [if_neg hs] at fit ⊢
    refine ⟨_,_,rfl,Qhx hli 8 (by omega) _ _,fun j _ h1=>hoB j h1,?_⟩
    refine LI.shares h8 hh hb g2 g3 hk fit.2.1 (h.data hh hone) h.lo.2.2.1 (h.mem1 hh) hone (kt0:=ktOf e) ?_ ?_
    ·intro j hj hjk
     rw [if_neg (by simp [hjk])]
     exact hr j hj
    ·intro a h1 h2
     simp only [and_true,if_pos (show m.kd≤3 by omega)]
     exact r2 _ a h1 h2
 ·rw [show YT e k m=Qgk e k m by simp [YT,kd]] at fit ⊢
  have hUk:=hU (by omega)
  have hrk:=hr k hk
  rw [hUk] at hrk
  obtain ⟨n1,r1,r3⟩:=hrk.getM kd
  have n1':e.ow≠(k:Int):=by simpa using n1
  have hoth:∀j:Nat,j<8→(hasM (Jb e&&& ~~~(bitM (k:Int))) (j:Int)=true↔(hasM e.sh j=true∨e.ow=(j:Int))∧j≠k):=by
   intro j hj
   rw [Jt,Bool.and_eq_true,J3 e hj,Bool.not_eq_true',Yk _ hkC,decide_eq_false_iff_not]
   exact and_congr_right fun _=>not_congr (by omega)
  unfold Qgk at fit ⊢
  by_cases hc:(Jb e&&& ~~~(bitM (k:Int)))=0#8
  ·rw [if_pos hc] at fit ⊢
   have hnone:∀j:Nat,j<8→j≠k→hasM e.sh j=false∧e.ow≠(j:Int):=by
    intro j hj hjk
    have h1:=hoth j hj
    rw [hc,ZW] at h1
    constructor
    ·cases h2:hasM e.sh (j:Int)
     ·rfl
     ·exact absurd (h1.2 ⟨.inl h2,hjk⟩) (by decide)
    ·intro h2;exact absurd (h1.2 ⟨.inr h2,hjk⟩) (by decide)
   have hone:e.ow= -1:=by
    rcases g1 with h1|⟨h1,_⟩
    ·exact h1
    ·obtain ⟨j,hj,hj2⟩:=J2 h1
     by_cases hjk:j=k
     ·subst hjk;exact absurd hj2 n1'
     ·exact absurd hj2 (hnone j hj hjk).2
   refine ⟨_,_,rfl,Qhx hli 10 (by omega) _ _,fun j _ h1=>hoB j h1,?_⟩
   refine LI.owns h8 hh hb g2 g3 hk fit.2.1 (h.data hh hone) (h.mem1 hh) (fun j hj hjk=>hnone j (by omega) hjk) (kt0:=ktOf e) ?_ ?_
   ·intro j hj hjk
    rw [if_neg (by simp [hjk])]
    exact hr j hj
   ·intro a h1 h2
    simp only [and_true,if_pos (show m.kd≤3 by omega)]
    exact r3 _ a h1 h2 (h.data hh hone)
  ·rw [if_neg hc] at fit ⊢
   refine ⟨_,_,rfl,Qey hli 12 (by omega),fun j hj h1=>?_,?_⟩
   ·rcases ((hoth j hj).1 h1).1 with h2|h2
    ·exact h.lo.2.2.1 j hj h2
    ·exact hown j h2
   ·refine h.waits h8 hh hb hk (kt:=12) (by rw [kd];rfl) (.inr (.inl kd)) fit.2.1 (fun j hj h1=>((hoth j hj).1 h1).1) (fun h1=>by omega) ?_ ?_ ?_ (fun h1=>by omega) (fun _ j hj h1 h2=>(hoth j hj).2 ⟨h1,by omega⟩)
    ·intro j hj;simp [hj]
    ·intro h1;omega
    ·intro _
     refine ⟨?_,?_⟩
     ·cases h1:hasM (Jb e&&& ~~~(bitM (k:Int))) (k:Int)
      ·rfl
      ·exact absurd rfl ((hoth k (by omega)).1 h1).2
     ·simp only [and_true,if_pos (show m.kd≤3 by omega)]
      rw [n1,kd]
      exact r1 _ _
 ·rw [show YT e k m=putE e k m by simp [YT,kd]] at fit ⊢
  have hUk:=hU (by omega)
  have hrk:=hr k hk
  rw [hUk] at hrk
  obtain ⟨r1,r2⟩:=hrk.put kd
  refine ⟨_,_,rfl,Qey hli 11 (by omega),fun j _ h1=>hoB j h1,?_⟩
  have hw:∀x:En,(Za x k).he=x.he∧(Za x k).di=x.di∧(Za x k).l=x.l∧(Za x k).ow=(if x.ow=k then -1 else x.ow)∧(Za x k).sh=x.sh&&& ~~~(bitM (k:Int))∧(Za x k).bu=x.bu∧(Za x k).by_=x.by_∧(Za x k).wa=x.wa:=by
   intro x;unfold Za;split<;>exact ⟨rfl,rfl,rfl,by simp [*,En.setOw,En.setSh],rfl,rfl,rfl,rfl⟩
  have hp:(putE e k m).1=Za (if e.ow=k then Ze e m else e) k:=rfl
  obtain ⟨q1,q2,q3,q4,q5,q6,q7,q8⟩:=hw (if e.ow=k then Ze e m else e)
  rw [←hp] at q1 q2 q3 q4 q5 q6 q7 q8
  have hz:(if e.ow=(k:Int) then Ze e m else e).ow=e.ow∧(if e.ow=(k:Int) then Ze e m else e).sh=e.sh∧(if e.ow=(k:Int) then Ze e m else e).bu=0∧(if e.ow=(k:Int) then Ze e m else e).by_=0∧(if e.ow=(k:Int) then Ze e m else e).wa=0#8:=by
   obtain ⟨_,b2,b3,b4,b5,b6⟩:=Qfb e m
   split
   ·exact ⟨b2,b3,b4.trans hb,b5.trans g2,b6.trans g3⟩
   ·exact ⟨rfl,rfl,hb,g2,g3⟩
  obtain ⟨z1,z2,z3,z4,z5⟩:=hz
  rw [z1] at q4
  rw [z2] at q5
  rw [z3] at q6
  rw [z4] at q7
  rw [z5] at q8
  have hl:e.ow=(k:Int)→(putE e k m).1.l=cur∧(m.di=true→(putE e k m).1.di=true)∧(m.di=false→(putE e k m).1.l=e.l∧(putE e k m).1.di=e.di):=by
   intro ho
   obtain ⟨s1,s2⟩:=r1 (by simpa using ho)
   rw [q3,q2,if_pos ho]
   unfold Ze
   cases hd:m.di
   ·simp only [Bool.false_eq_true,if_false]
    exact ⟨s2 hd,fun h=>(by cases h),fun _=>⟨trivial,trivial⟩⟩
   ·simp only [if_true]
    exact ⟨s1 hd,fun _=>rfl,fun h=>by cases h⟩
  have hn:e.ow≠(k:Int)→(putE e k m).1.l=e.l∧(putE e k m).1.di=e.di:=by
   intro ho
   rw [q3,q2,if_neg ho];exact ⟨rfl,rfl⟩
  have fit1:=fit.1
  have fit2:=fit.2.1
  clear fit hp
  generalize (putE e k m).1=e' at *
  refine ⟨fit2,⟨?_,by rw [q7];omega,fun j hj h1=>?_,fun j _ h1=>?_⟩,?_,fun _ h1=>?_,fun h1=>?_,fun _ h1=>?_,fun h1=>?_,fun h1=>?_⟩
  ·rw [q4];split
   ·omega
   ·exact h.lo.1
  ·rw [q5,Jt,Bool.and_eq_true] at h1
   exact h.lo.2.2.1 j hj h1.1
  ·rw [q8,ZW] at h1;cases h1
  ·intro j hj
   rw [q5,q8,ZW,bOf_0 q6,Jt,Yk _ hkC,show ktOf e'=13 by unfold ktOf;rw [q6];rfl]
   by_cases hjk:j=k
   ·subst hjk
    rw [decide_eq_true rfl,if_pos rfl]
    have e1:decide (e'.ow=(j:Int))=false:=by
     rw [q4];split
     ·exact decide_eq_false (by omega)
     ·rename_i h2;simpa using h2
    rw [e1]
    simp only [and_true,if_pos (show m.kd≤3 by omega),Bool.not_true,Bool.and_false]
    exact r2 _ _ _ _ rfl
   ·rw [decide_eq_false (show ¬(k:Int)=(j:Int) by omega),if_neg (show ¬(m.kd≤3∧j=k) by simp [hjk])]
    simp only [Bool.false_eq_true,if_false,List.append_nil,Bool.not_false,Bool.and_true]
    have h2:=((hr j hj).anyKt 13).1
    by_cases ho:e.ow=(k:Int)
    ·rw [q4,if_pos ho,decide_eq_false (show ¬((-1:Int)=(j:Int)) by omega)]
     rw [decide_eq_false (by omega)] at h2
     exact h2.anyEl _
    ·rw [q4,if_neg ho,(hn ho).1]
     exact h2
  ·by_cases ho:e.ow=(k:Int)
   ·exact (hl ho).1
   ·rw [q4,if_neg ho] at h1
    rw [(hn ho).1];exact h.data hh h1
  ·exact absurd (fit1.symm.trans h1) (by decide)
  ·by_cases ho:e.ow=(k:Int)
   ·cases hd:m.di
    ·rw [((hl ho).2.2 hd).1]
     exact h.mem1 hh (by rw [←((hl ho).2.2 hd).2];exact h1)
    ·exact absurd (((hl ho).2.1 hd).symm.trans h1) (by decide)
   ·rw [(hn ho).1]
    exact h.mem1 hh (by rw [←(hn ho).2];exact h1)
  ·exact absurd (q6.symm.trans h1) (by decide)
  ·exact absurd (q6.symm.trans h1) (by decide)
 ·rw [show YT e k m=cleanE e k m by simp [YT,kd]] at fit ⊢
  refine ⟨_,_,rfl,Qey hli 13 (by omega),fun j _ h1=>?_,?_⟩
  ·rw [Qdr,Bool.and_eq_true,decide_eq_true_eq] at h1;exact hown j h1.2
  ·refine h.waits h8 hh hb hk (kt:=13) (by rw [kd];rfl) (by omega) fit.2.1 Qho ?_ ?_ ?_ ?_ (fun h1=>by omega) (fun h1=>by omega)
   ·intro _ j _ h1;rw [Qdr,Bool.and_eq_true,decide_eq_true_eq] at h1;exact h1.2
   ·intro j hj;simp [hj]
   ·intro _;rw [if_neg (by omega)]
   ·intro h1;omega
 ·rw [show YT e k m=wipeE e k m by simp [YT,kd]] at fit ⊢
  refine ⟨_,_,rfl,Qey hli 12 (by omega),fun j hj h1=>?_,?_⟩
  ·rcases (J3 e hj).1 h1 with h2|h2
   ·exact h.lo.2.2.1 j hj h2
   ·exact hown j h2
  ·refine h.waits h8 hh hb hk (kt:=12) (by rw [kd];rfl) (by omega) fit.2.1 (fun j hj h1=>(J3 e hj).1 h1) (fun h1=>by omega) ?_ ?_ ?_ (fun h1=>by omega) (fun h1=>by omega)
   ·intro j hj;simp [hj]
   ·intro _;rw [if_neg (by omega)]
   ·intro h1;omega
theorem LI.answered (h:LI co cur X e st l U N D) (h8:co≤8) {k:Nat} (hk:k<co) {m:Ms} (hm:Qbt m.kd=true) (hg:mg m=true) {V:List Ms} (hN:N k=m::V):
 ∃(o:Mk) (a:Ms),(ansE e k m).2=0∧(ansE e k m).1.2=XC o a∧Qew m.li a∧(∀j:Nat,j<8→hasM o j=true→j<co)∧
  LI co cur X (ansE e k m).1.1 st l U (fun j=>if j=k then V else N j) (fun j=>D j++if hasM o j=true then [a] else []):=by
 have hkC:isC (k:Int)=true:=Qb8 (by omega)
 have hli:Qc8 m.li=true:=by simp only [mg,Bool.and_eq_true] at hg;exact hg.1.1.1.2
 have hrk:=h.rel k hk
 rw [hN] at hrk
 obtain ⟨w1,rfl,b1,os,r1,d1,d2,kk⟩:=hrk.answer
 have hh:=Qhu h.good w1
 obtain ⟨g1,g2⟩:=(YX hh).1 h.good
 have harg:Qf7 e (k:Int) m=true:=by simp [Qf7,h.good,hkC,hg,hm]
 obtain ⟨a1,a2,a3,a4,a5,a6⟩:=Qcj e (k:Int) m
 obtain ⟨f1,f2,f3⟩:=Qf6 (m:=m) h.good w1
 have fit:=ans_fit (m:=m) h.good w1
 have hl:(QW e (k:Int) m).l=cur∧((QW e (k:Int) m).di=false→X=(QW e (k:Int) m).l)∧(e.ow≠(k:Int)→(QW e (k:Int) m).l=e.l):=by
  have q:(QW e (k:Int) m).l=(Ze e m).l∧(QW e (k:Int) m).di=(Ze e m).di:=by
   have hw:∀x:En,(Za x k).l=x.l∧(Za x k).di=x.di:=by
    intro x;unfold Za;split<;>exact ⟨rfl,rfl⟩
   unfold QW
   dsimp only
   split
   ·exact hw _
   ·exact hw _
  rw [q.1,q.2]
  unfold Ze
  by_cases ho:e.ow=(k:Int)
  ·obtain ⟨s1,s2⟩:=d1 (by simpa using ho)
   cases hd:m.di
   ·simp only [Bool.false_eq_true,if_false]
    exact ⟨s2 hd,fun h1=>h.mem1 hh h1,fun h1=>trivial⟩
   ·simp only [if_true]
    exact ⟨s1 hd,fun h1=>(by cases h1),fun h1=>absurd ho h1⟩
  ·have hd:=d2 (by simpa using ho)
   rw [hd]
   simp only [Bool.false_eq_true,if_false]
   refine ⟨?_,fun h1=>h.mem1 hh h1,fun _=>trivial⟩
   have hs:hasM e.sh (k:Int)=true:=by
    rw [decide_eq_false ho] at os;simpa using os
   refine h.data hh ?_
   rcases g1 with h1|⟨_,h1⟩
   ·exact h1
   ·rw [h1,ZW] at hs;cases hs
 have hlo:Lo co (QW e (k:Int) m):=by
  refine ⟨by rw [f1];omega,by rw [a5];exact h.lo.2.1,fun j hj h1=>?_,fun j hj h1=>?_⟩
  ·rw [a3] at h1
   split at h1
   ·rw [Qgz,Bool.or_eq_true,Yk _ hkC,decide_eq_true_eq,Jt,Bool.and_eq_true] at h1
    rcases h1 with h1|h1
    ·exact h.lo.2.2.1 j hj h1.1
    ·omega
   ·rw [Jt,Bool.and_eq_true] at h1
    exact h.lo.2.2.1 j hj h1.1
  ·rw [a6,Jt,Bool.and_eq_true] at h1
   exact h.lo.2.2.2 j hj h1.1
 have hkt:ktOf (QW e (k:Int) m)=ktOf e:=by unfold ktOf;rw [a4]
 have hbo:∀j:Nat,bOf (QW e (k:Int) m) j=bOf e j:=fun j=>by unfold bOf;rw [a4,a5]
 have hrel:∀j:Nat,j<co→Rel cur (QW e (k:Int) m).l (ktOf (QW e (k:Int) m)) (decide ((QW e (k:Int) m).ow=(j:Int))) (hasM (QW e (k:Int) m).sh j) (hasM (QW e (k:Int) m).wa j) (bOf (QW e (k:Int) m) j) (st j) (l j) (U j) ((fun j=>if j=k then [] else N j) j) (D j):=by
  intro j hj
  have e1:decide ((QW e (k:Int) m).ow=(j:Int))=false:=by rw [f1];exact decide_eq_false (by omega)
  rw [e1,hbo,hkt]
  by_cases hjk:j=k
  ·subst hjk
   have e2:hasM (QW e (j:Int) m).sh j=m.ke:=by
    rw [a3]
    cases m.ke
    ·simp only [Bool.false_eq_true,if_false]
     rw [Jt,Yk _ hkC];simp
    ·simp only [if_true]
     rw [Qgz,Yk _ hkC];simp
   have e3:hasM (QW e (j:Int) m).wa j=false:=by
    rw [a6,Jt,Yk _ hkC];simp
   rw [e2,e3,b1]
   simp only [if_true]
   exact r1 _ _
  ·have e2:hasM (QW e (k:Int) m).sh j=hasM e.sh j:=by
    rw [a3]
    split
    ·rw [Qgz,Jt,Yk _ hkC,decide_eq_false (by omega)];simp
    ·rw [Jt,Yk _ hkC,decide_eq_false (by omega)];simp
   have e3:hasM (QW e (k:Int) m).wa j=hasM e.wa j:=by
    rw [a6,Jt,Yk _ hkC,decide_eq_false (by omega)];simp
   rw [e2,e3]
   simp only [hjk,if_false]
   have h1:=h.rel j hj
   have e4:decide (e.ow=(j:Int))=false:=by
    rw [a2] at f1
    split at f1
    ·rename_i h2;exact decide_eq_false (by omega)
    ·rw [f1];exact decide_eq_false (by omega)
   rw [e4] at h1
   exact h1.anyEl _
 have hke:e.bu=2→m.ke=false:=fun hb=>kk (by unfold ktOf;rw [if_pos (.inl hb)])
 have hw2:e.bu=2→∀j:Nat,j<8→(hasM (QW e (k:Int) m).sh j=true∨(QW e (k:Int) m).ow=(j:Int))→(j:Int)≠e.by_→hasM (QW e (k:Int) m).wa j=true:=by
  intro hb j hj h1 h2
  rcases h1 with h1|h1
  ·rw [a3,hke hb] at h1
   simp only [Bool.false_eq_true,if_false] at h1
   rw [Jt,Bool.and_eq_true] at h1
   rw [a6,Jt,h.wait2 hb j hj (.inl h1.1) h2,h1.2];rfl
  ·rw [f1] at h1;omega
 unfold ansE
 rw [if_pos harg,if_pos w1]
 generalize QW e (k:Int) m=A at *
 have hhA:A.he=true:=a1.trans hh
 by_cases hw:A.wa≠0#8
 ·rw [if_pos hw] at fit ⊢
  refine ⟨0#8,ms4 11 m.li false false,rfl,rfl,Qey hli 11 (by omega),fun j _ h1=>(by rw [ZW] at h1;cases h1),?_⟩
  refine ⟨fit.2.1,hlo,fun j hj=>?_,fun _ _=>hl.1,fun h1=>?_,fun _=>hl.2.1,fun _ h1=>absurd f1 h1,fun hb=>?_⟩
  ·rw [ZW]
   simp only [Bool.false_eq_true,if_false,List.append_nil]
   exact hrel j hj
  ·exact absurd (hhA.symm.trans h1) (by decide)
  ·rw [a5];exact hw2 (a4.symm.trans hb)
 ·have hw0:A.wa=0#8:=by simpa using hw
  rw [if_neg hw] at fit ⊢
  obtain ⟨p,hp,hby2⟩:=J2 f2.1
  have hpc:p<co:=by have:=hlo.2.1;omega
  have hoth:∀j:Nat,j<co→j≠p→Rel cur A.l (ktOf A) (decide (A.ow=(j:Int))) (hasM A.sh j) false 0 (st j) (l j) (U j) ((fun j=>if j=k then [] else N j) j) (D j):=by
   intro j hj hjp
   have h1:=hrel j hj
   rw [hw0,ZW,bOf_ne (by omega)] at h1
   exact h1
  have hoB:∀j:Nat,hasM (bitM (p:Int)) (j:Int)=true→j<co:=fun j hj=>by rw [Yk _ (Qb8 hp),decide_eq_true_eq] at hj;omega
  have hrp:=hrel p hpc
  unfold YP at fit ⊢
  by_cases hb1:A.bu=1
  ·rw [if_pos hb1] at fit ⊢
   rw [hby2] at fit ⊢
   rw [show bOf A p=1 by unfold bOf;rw [if_pos hby2,hb1];rfl] at hrp
   obtain ⟨_,_,_,r2⟩:=hrp.settleS
   refine ⟨_,_,rfl,rfl,Qhx hli 8 (by omega) _ _,fun j _ h1=>hoB j h1,?_⟩
   exact LI.shares (e:=Js A) h8 hhA rfl rfl rfl hpc fit.2.1 hl.1 hlo.2.2.1 hl.2.1 f1 (kt0:=ktOf A) hoth (fun a h1 h2=>r2 _ a h1 h2 _)
  ·rw [if_neg hb1] at fit ⊢
   by_cases hb2:A.bu=2
   ·rw [if_pos hb2] at fit ⊢
    rw [hby2] at fit ⊢
    rw [show bOf A p=2 by unfold bOf;rw [if_pos hby2,hb2];rfl] at hrp
    obtain ⟨_,_,r2⟩:=hrp.settleM
    refine ⟨_,_,rfl,rfl,Qhx hli 10 (by omega) _ _,fun j _ h1=>hoB j h1,?_⟩
    refine LI.owns (e:=Js A) h8 hhA rfl rfl rfl hpc fit.2.1 hl.1 hl.2.1 ?_ (kt0:=ktOf A) hoth (fun a h1 h2=>r2 _ a h1 h2 _ hl.1)
    intro j hj hjp
    have h1:=hw2 (a4.symm.trans hb2) j (by omega)
    rw [hw0,ZW] at h1
    constructor
    ·cases h2:hasM (Js A).sh (j:Int)
     ·rfl
     ·exact absurd (h1 (.inl h2) (by rw [←a5];omega)) (by decide)
    ·show A.ow≠(j:Int)
     rw [f1];omega
   ·rw [if_neg hb2] at fit ⊢
    refine ⟨0#8,ms4 11 m.li false false,rfl,rfl,Qey hli 11 (by omega),fun j _ h1=>(by rw [ZW] at h1;cases h1),?_⟩
    refine ⟨fit.2.1,hlo,fun j hj=>?_,fun _ _=>hl.1,fun h1=>?_,fun _=>hl.2.1,fun _ h1=>absurd f1 h1,fun hb=>absurd hb hb2⟩
    ·rw [ZW]
     simp only [Bool.false_eq_true,if_false,List.append_nil]
     exact hrel j hj
    ·exact absurd (hhA.symm.trans h1) (by decide)
end
end
end Go.Proofs.YtlidfghgjjffaaaGreatDoor
