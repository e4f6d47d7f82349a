/- Texts of the walk, one behind the other: Dirg Prb Prc Prd. No condition. -/
import Derived.Test.YtcgjofbkcgedfaaGreatDoorMPaa
import Derived.Test.YtcgjofbkcgedfaaGreatDoorMPae
import Derived.Test.YtcgjofbkcgedfaaGreatDoorMPai
import Derived.Test.YtcgjofbkcgedfaaGreatDoorMPaj
namespace Go.Proofs.YtcgjofbkcgedfaaGreatDoor
open Go.RowKit
set_option linter.unusedVariables false
set_option maxHeartbeats 1000000
section
def Gp (e:En):Prop:=e.ow= -1∨(isC e.ow=true∧e.sh=0#8)
def Wp (e:En):Prop:=isC e.by_=true∧∀k:Nat,k<8→hasM e.wa k=true→hasM e.sh k=true∨e.ow=(k:Int)
def Bp (e:En):Prop:=(e.bu=0∧e.by_=0∧e.wa=0#8)∨((e.bu=1∨e.bu=2)∧Wp e∧e.wa≠0#8)∨((e.bu=4∨e.bu=5)∧Wp e)
theorem Qb0 {k:Nat} (h:k<8):isC (k:Int)=true:=by simp [isC];omega
theorem JV (e:En) {k:Nat} (hk:k<8):hasM (Y7 e) k=true↔hasM e.sh k=true∨e.ow=(k:Int):=by
 unfold Y7
 rw [Qgs,Bool.or_eq_true,Qdi,Bool.and_eq_true,decide_eq_true_eq]
 constructor
 ·rintro (h|⟨_,h⟩)
  ·exact .inl h
  ·exact .inr h
 ·rintro (h|h)
  ·exact .inl h
  ·exact .inr ⟨by rw [h];exact Qb0 hk,h⟩
theorem sub_iff (a b:Mk):((a&&& ~~~b)==0#8)=true↔∀k:Nat,k<8→hasM a k=true→hasM b k=true:=by
 rw [zero_iff]
 constructor
 ·intro h k hk ha
  have:=h k hk
  rw [Jg,ha,Bool.true_and] at this
  simpa using this
 ·intro h k hk
  rw [Jg]
  cases ha:hasM a k
  ·rfl
  ·rw [h k hk ha];rfl
theorem goodWa_iff (e:En):Qej e=true↔Wp e:=by
 unfold Qej Wp
 rw [Bool.and_eq_true,sub_iff]
 constructor
 ·rintro ⟨h1,h2⟩;exact ⟨h1,fun k hk h=>(JV e hk).1 (h2 k hk h)⟩
 ·rintro ⟨h1,h2⟩;exact ⟨h1,fun k hk h=>(JV e hk).2 (h2 k hk h)⟩
theorem YE {e:En} (h:e.he=true):JG e=true↔Gp e∧Bp e:=by
 have h1:Qfg e=true↔Gp e:=by simp [Qfg,Gp]
 have h2:Qb2 e=true↔Bp e:=by
  unfold Qb2 Bp
  split
  ·rename_i h0
   simp only [Bool.and_eq_true,beq_iff_eq]
   constructor
   ·rintro ⟨a,b⟩;exact .inl ⟨h0,a,b⟩
   ·rintro (⟨_,a,b⟩|⟨a,_⟩|⟨a,_⟩)
    ·exact ⟨a,b⟩
    ·omega
    ·omega
  ·split
   ·rename_i h0 h3
    rw [Bool.and_eq_true,goodWa_iff,bne_iff_ne]
    constructor
    ·rintro ⟨a,b⟩;exact .inr (.inl ⟨h3,a,b⟩)
    ·rintro (⟨a,_⟩|⟨_,a,b⟩|⟨a,_⟩)
     ·omega
     ·exact ⟨a,b⟩
     ·omega
   ·split
    ·rename_i h0 h3 h4
     rw [goodWa_iff]
     constructor
     ·exact fun a=>.inr (.inr ⟨h4,a⟩)
     ·rintro (⟨a,_⟩|⟨a,_⟩|⟨_,a⟩)
      ·omega
      ·omega
      ·exact a
    ·rename_i h0 h3 h4
     constructor
     ·intro h;cases h
     ·rintro (⟨a,_⟩|⟨a,_⟩|⟨a,_⟩)<;>omega
 unfold JG
 rw [if_pos h,Bool.and_eq_true,h1,h2]
theorem bits_zero (c:Int) (h:isC c=true):bitM c≠0#8:=by
 have:=bit_ne0 c
 rw [h] at this
 simpa using this
theorem has_self {c:Int} (h:isC c=true):hasM (bitM c) c=true:=by rw [Qdi,h];simp
def okS (a:En) (s:Sd):Prop:=((s.m.kd=9∨s.m.kd=10)→a.ow=s.to∧s.m.l=a.l)∧(s.m.kd=8→hasM a.sh s.to=true∧s.m.l=a.l)∧((s.m.kd=12∨s.m.kd=13)→hasM a.wa s.to=true)
def Fit7 (r:En×List Sd):Prop:=r.1.he=true∧JG r.1=true∧∀s∈r.2,okS r.1 s
theorem Qg7 {s:Mk} {m:Ms} {x:Sd} (h:x∈Xt s m):hasM s x.to=true∧x.m=m:=by
 unfold Xt at h
 obtain ⟨c,hc,rfl⟩:=List.mem_map.1 h
 exact ⟨(Qe7 s c).1 hc,rfl⟩
theorem Qhk {e:En} (hh:e.he=true) (hg:Gp e) (c:Int) (hc:isC c=true) (m:Ms) (o:Mk) (kd:Int) (hkd:kd=12∨kd=13) (ho:∀k:Nat,k<8→hasM o k=true→hasM e.sh k=true∨e.ow=(k:Int)) (hk:m.kd=4∨m.kd=5∨((m.kd=1∨m.kd=2)∧o≠0#8)):Fit7 (JR e c m o kd):=by
 have hg':Gp (JR e c m o kd).1:=hg
 have hw:Wp (JR e c m o kd).1:=⟨hc,ho⟩
 refine ⟨hh,(YE (e:=(JR e c m o kd).1) hh).2 ⟨hg',?_⟩,?_⟩
 ·rcases hk with h|h|⟨h,h2⟩
  ·exact .inr (.inr ⟨.inl h,hw⟩)
  ·exact .inr (.inr ⟨.inr h,hw⟩)
  ·exact .inr (.inl ⟨h,hw,h2⟩)
 ·intro s hs
  obtain ⟨h1,h2⟩:=Qg7 (show s∈Xt o (ms4 kd m.li false false) from hs)
  have h3:s.m.kd=kd:=by rw [h2];rfl
  refine ⟨fun h=>?_,fun h=>?_,fun _=>h1⟩<;>omega
theorem Qib {e:En} (hh:e.he=true) (hb:e.bu=0∧e.by_=0∧e.wa=0#8) (c:Int) (hc:isC c=true) (kd li:Int) (hkd:kd=9∨kd=10):Fit7 (JB e c kd li):=by
 refine ⟨hh,(YE (e:=(JB e c kd li).1) hh).2 ⟨.inr ⟨hc,rfl⟩,.inl hb⟩,?_⟩
 intro s hs
 rw [show (JB e c kd li).2=Xt (bitM c) (ms5 kd li e.l e.h) from rfl,Qg6 hc] at hs
 obtain rfl:s=⟨c,ms5 kd li e.l e.h⟩:=by simpa using hs
 refine ⟨fun _=>⟨rfl,rfl⟩,fun h=>?_,fun h=>?_⟩
 ·have:kd=8:=h
  omega
 ·have:kd=12∨kd=13:=h
  omega
theorem fit_shared {e:En} (hh:e.he=true) (hg:e.ow= -1) (hb:e.bu=0∧e.by_=0∧e.wa=0#8) (c:Int) (hc:isC c=true) (li:Int):Fit7 (Jd e c li):=by
 refine ⟨hh,(YE (e:=(Jd e c li).1) hh).2 ⟨.inl hg,.inl hb⟩,?_⟩
 intro s hs
 rw [show (Jd e c li).2=Xt (bitM c) (ms5 8 li e.l e.h) from rfl,Qg6 hc] at hs
 obtain rfl:s=⟨c,ms5 8 li e.l e.h⟩:=by simpa using hs
 refine ⟨fun h=>?_,fun _=>⟨?_,rfl⟩,fun h=>?_⟩
 ·have:(8:Int)=9∨(8:Int)=10:=h
  omega
 ·show hasM (e.sh|||bitM c) c=true
  rw [Qgs,has_self hc,Bool.or_true]
 ·have:(8:Int)=12∨(8:Int)=13:=h
  omega
theorem Qhj {e:En}:∀k:Nat,k<8→hasM (bitM e.ow) k=true→hasM e.sh k=true∨e.ow=(k:Int):=by
 intro k _ h
 rw [Qdi,Bool.and_eq_true,decide_eq_true_eq] at h
 exact .inr h.2
theorem busy0 {e:En} (hh:e.he=true) (g:JG e=true) (hb:e.bu=0):Gp e∧e.bu=0∧e.by_=0∧e.wa=0#8:=by
 obtain ⟨h1,h2⟩:=(YE hh).1 g
 refine ⟨h1,?_⟩
 rcases h2 with h|⟨h,_⟩|⟨h,_⟩
 ·exact h
 ·omega
 ·omega
theorem ask_fit {e:En} {c:Int} {m:Ms} (g:JG e=true) (hh:e.he=true) (hb:e.bu=0) (hc:isC c=true) (hm:Qef m.kd=true):Fit7 (Yy e c m):=by
 obtain ⟨hg,hb'⟩:=busy0 hh g hb
 have hk:m.kd=1∨m.kd=2∨m.kd=3∨m.kd=4∨m.kd=5:=by simp [Qef] at hm;omega
 rcases hk with k|k|k|k|k
 ·rw [show Yy e c m=Qer e c m by simp [Yy,k]]
  unfold Qer
  split
  ·rename_i h
   refine Qhk hh hg c hc m _ 13 (.inr rfl) Qhj (.inr (.inr ⟨.inl k,?_⟩))
   rcases hg with h1|h1
   ·exact absurd h1 h.1
   ·exact bits_zero _ h1.1
  ·rename_i h
   split
   ·exact Qib hh hb' c hc 9 m.li (.inl rfl)
   ·rename_i hs
    refine fit_shared hh ?_ hb' c hc m.li
    rcases hg with h1|h1
    ·exact h1
    ·exact absurd h1.2 hs
 ·rw [show Yy e c m=Qgb e c m by simp [Yy,k]]
  unfold Qgb
  split
  ·exact Qib hh hb' c hc 10 m.li (.inr rfl)
  ·rename_i h
   refine Qhk hh hg c hc m _ 12 (.inl rfl) ?_ (.inr (.inr ⟨.inr k,h⟩))
   intro j hj hj2
   rw [Jg,Bool.and_eq_true] at hj2
   exact (JV e hj).1 hj2.1
 ·rw [show Yy e c m=putE e c m by simp [Yy,k]]
  have hw:∀x:En,x.he=true→Gp x→(x.bu=0∧x.by_=0∧x.wa=0#8)→(Q9 x c).he=true∧JG (Q9 x c)=true:=by
   intro x h1 h2 h3
   have h4:(Q9 x c).he=true:=by unfold Q9;split<;>exact h1
   refine ⟨h4,(YE h4).2 ⟨?_,?_⟩⟩
   ·unfold Q9 Gp
    split
    ·exact .inl rfl
    ·rcases h2 with h|⟨h,h'⟩
     ·exact .inl h
     ·right
      refine ⟨h,?_⟩
      show x.sh&&& ~~~(bitM c)=0#8
      rw [h']
      apply mk_ext;intro k _;rw [Jg,ZM];rfl
   ·left
    unfold Q9
    split<;>exact h3
  unfold putE
  have h5:(Q9 (if e.ow=c then Zb e m else e) c).he=true∧JG (Q9 (if e.ow=c then Zb e m else e) c)=true:=by
   split
   ·refine hw _ ?_ ?_ ?_
    ·unfold Zb;split<;>exact hh
    ·unfold Zb;split<;>exact hg
    ·unfold Zb;split<;>exact hb'
   ·exact hw e hh hg hb'
  refine ⟨h5.1,h5.2,?_⟩
  intro s hs
  obtain ⟨_,h2⟩:=Qg7 (show s∈Xt (bitM c) (ms4 11 m.li false false) from hs)
  have h3:s.m.kd=11:=by rw [h2];rfl
  refine ⟨fun h=>?_,fun h=>?_,fun h=>?_⟩<;>omega
 ·rw [show Yy e c m=cleanE e c m by simp [Yy,k]]
  exact Qhk hh hg c hc m _ 13 (.inr rfl) Qhj (.inl k)
 ·rw [show Yy e c m=wipeE e c m by simp [Yy,k]]
  exact Qhk hh hg c hc m _ 12 (.inl rfl) (fun j hj h=>(JV e hj).1 h) (.inr (.inl k))
theorem Qey (e:En) (m:Ms):(Zb e m).he=e.he∧(Zb e m).ow=e.ow∧(Zb e m).sh=e.sh∧(Zb e m).bu=e.bu∧(Zb e m).by_=e.by_∧(Zb e m).wa=e.wa:=by
 unfold Zb;split<;>exact ⟨rfl,rfl,rfl,rfl,rfl,rfl⟩
theorem Qch (e:En) (c:Int) (m:Ms):(QQ e c m).he=e.he∧(QQ e c m).ow=(if e.ow=c then -1 else e.ow)∧(QQ e c m).sh=(if m.ke=true then (e.sh&&& ~~~(bitM c))|||bitM c else e.sh&&& ~~~(bitM c))∧(QQ e c m).bu=e.bu∧(QQ e c m).by_=e.by_∧(QQ e c m).wa=e.wa&&& ~~~(bitM c):=by
 obtain ⟨h1,h2,h3,h4,h5,h6⟩:=Qey e m
 have hw:∀x:En,(Q9 x c).he=x.he∧(Q9 x c).ow=(if x.ow=c then -1 else x.ow)∧(Q9 x c).sh=x.sh&&& ~~~(bitM c)∧(Q9 x c).bu=x.bu∧(Q9 x c).by_=x.by_∧(Q9 x c).wa=x.wa:=by
  intro x;unfold Q9;split<;>exact ⟨rfl,by simp [*,En.setOw,En.setSh],rfl,rfl,rfl,rfl⟩
 obtain ⟨a1,a2,a3,a4,a5,a6⟩:=hw (Zb e m)
 unfold QQ
 dsimp only
 split
 ·refine ⟨a1.trans h1,(show (Q9 (Zb e m) c).ow=_ from a2).trans (by rw [h2]),?_,a4.trans h4,a5.trans h5,?_⟩
  ·show (Q9 (Zb e m) c).sh|||bitM c=_
   rw [a3,h3]
  ·show (Q9 (Zb e m) c).wa&&& ~~~(bitM c)=_
   rw [a6,h6]
 ·refine ⟨a1.trans h1,(show (Q9 (Zb e m) c).ow=_ from a2).trans (by rw [h2]),?_,a4.trans h4,a5.trans h5,?_⟩
  ·show (Q9 (Zb e m) c).sh=_
   rw [a3,h3]
  ·show (Q9 (Zb e m) c).wa&&& ~~~(bitM c)=_
   rw [a6,h6]
theorem Qho {e:En} {c:Int} (g:JG e=true) (h:hasM e.wa c=true):e.he=true:=by
 cases hh:e.he
 ·have:e=enE:=by simpa [JG,hh] using g
  subst this
  have:hasM (0#8) c=true:=h
  rw [ZM] at this;cases this
 ·rfl
theorem Qfw {e:En} {c:Int} {m:Ms} (g:JG e=true) (h:hasM e.wa c=true):
 (QQ e c m).ow= -1∧Wp (QQ e c m)∧((QQ e c m).bu=1∨(QQ e c m).bu=2∨(QQ e c m).bu=4∨(QQ e c m).bu=5):=by
 have hh:=Qho g h
 obtain ⟨hg,hb⟩:=(YE hh).1 g
 obtain ⟨a1,a2,a3,a4,a5,a6⟩:=Qch e c m
 have hw:Wp e∧(e.bu=1∨e.bu=2∨e.bu=4∨e.bu=5):=by
  rcases hb with ⟨_,_,h0⟩|⟨h0,h1,_⟩|⟨h0,h1⟩
  ·rw [h0,ZM] at h;cases h
  ·exact ⟨h1,by omega⟩
  ·exact ⟨h1,by omega⟩
 have hcc:isC c=true:=by
  cases hc:isC c
  ·rw [Qf9 hc] at h;cases h
  ·rfl
 obtain ⟨k,hk,rfl⟩:=JU hcc
 have how:e.ow=(k:Int)∨e.ow= -1:=by
  rcases hw.1.2 k hk h with h1|h1
  ·rcases hg with h2|⟨_,h2⟩
   ·exact .inr h2
   ·rw [h2,ZM] at h1;cases h1
  ·exact .inl h1
 refine ⟨?_,⟨by rw [a5];exact hw.1.1,?_⟩,by rw [a4];exact hw.2⟩
 ·rw [a2]
  split
  ·rfl
  ·rcases how with h1|h1
   ·contradiction
   ·exact h1
 ·intro j hj hj2
  rw [a6,Jg,Bool.and_eq_true,Bool.not_eq_true',Qdi,hcc,Bool.true_and,decide_eq_false_iff_not] at hj2
  left
  have hsh:hasM e.sh j=true:=by
   rcases hw.1.2 j hj hj2.1 with h1|h1
   ·exact h1
   ·exfalso
    rcases how with h2|h2
    ·exact hj2.2 (h2.symm.trans h1)
    ·omega
  rw [a3]
  have hx:hasM (e.sh&&& ~~~(bitM (k:Int))) j=true:=by
   rw [Jg,hsh,Qdi,hcc,Bool.true_and,Bool.true_and,Bool.not_eq_true',decide_eq_false_iff_not];exact hj2.2
  split
  ·rw [Qgs,hx];rfl
  ·exact hx
theorem ans_fit {e:En} {c:Int} {m:Ms} (g:JG e=true) (h:hasM e.wa c=true):Fit7 (if (QQ e c m).wa≠0#8 then (QQ e c m,[]) else Yt (QQ e c m) m.li):=by
 have hh:=Qho g h
 obtain ⟨a1,_⟩:=Qch e c m
 obtain ⟨h1,h2,h3⟩:=Qfw (m:=m) g h
 have hh':(QQ e c m).he=true:=a1.trans hh
 generalize QQ e c m=a at *
 split
 ·rename_i hw
  refine ⟨hh',(YE hh').2 ⟨.inl h1,?_⟩,by simp⟩
  rcases h3 with h3|h3|h3|h3
  ·exact .inr (.inl ⟨.inl h3,h2,hw⟩)
  ·exact .inr (.inl ⟨.inr h3,h2,hw⟩)
  ·exact .inr (.inr ⟨.inl h3,h2⟩)
  ·exact .inr (.inr ⟨.inr h3,h2⟩)
 ·unfold Yt
  split
  ·exact fit_shared (e:=Jf a) hh' h1 ⟨rfl,rfl,rfl⟩ a.by_ h2.1 m.li
  ·split
   ·exact Qib (e:=Jf a) hh' ⟨rfl,rfl,rfl⟩ a.by_ h2.1 10 m.li (.inr rfl)
   ·refine ⟨hh',(YE hh').2 ⟨.inl h1,.inr (.inr ⟨by omega,h2⟩)⟩,by simp⟩
theorem push_fit {e:En} (g:JJ e=true):Fit7 ((Jf e).setDi false,Xt (bitM e.by_) (ms4 14 0 false false)):=by
 have hg:JG e=true:=by simp only [JJ,Bool.and_eq_true] at g;exact g.1.1
 have hb:e.bu=4∨e.bu=5:=by simpa [JJ,Bool.and_eq_true] using (show (e.bu==4||e.bu==5)=true by simp only [JJ,Bool.and_eq_true] at g;exact g.1.2)
 have hh:e.he=true:=by
  cases hh:e.he
  ·have:e=enE:=by simpa [JG,hh] using hg
   subst this
   have:(0:Int)=4∨(0:Int)=5:=hb
   omega
  ·rfl
 obtain ⟨h1,_⟩:=(YE hh).1 hg
 refine ⟨hh,(YE (e:=(Jf e).setDi false) hh).2 ⟨h1,.inl ⟨rfl,rfl,rfl⟩⟩,?_⟩
 intro s hs
 obtain ⟨_,h2⟩:=Qg7 (show s∈Xt (bitM e.by_) (ms4 14 0 false false) from hs)
 have h3:s.m.kd=14:=by rw [h2];rfl
 refine ⟨fun h=>?_,fun h=>?_,fun h=>?_⟩<;>omega
end
section
inductive AOkN (li:Int):Nat→List Int→Nat→List Int→List Ms→Prop
 |askS (l l':List Int):AOkN li 0 l 4 l' [ms4 1 li false false]
 |askM (l l':List Int):AOkN li 0 l 5 l' [ms4 2 li false false]
 |up (l:List Int):AOkN li 1 l 6 l [ms4 2 li false false]
 |outS (l:List Int):AOkN li 1 l 7 l [ms4 3 li false false]
 |outE (l:List Int):AOkN li 2 l 7 l [ms4 3 li false false]
 |outM (l:List Int) (m:Ms) (hk:m.kd=3) (hl:m.li=li) (hd:m.di=true) (hke:m.ke=false) (hm:m.l=l):AOkN li 3 l 9 l [m]
theorem AOk.nat {li:Int} {st st':Int} {l l':List Int} {ms:List Ms} (h:AOk li st l st' l' ms):AOkN li st.toNat l st'.toNat l' ms:=by
 cases h
 ·exact .askS _ _
 ·exact .askM _ _
 ·exact .up _
 ·exact .outS _
 ·exact .outE _
 ·rename_i m hk hl hd hke hm
  exact .outM _ m hk hl hd hke hm
inductive Bs (cur el:List Int):Bool→Bool→Nat→Nat→List Int→List Ms→List Ms→Prop
 |i (l:List Int):Bs cur el false false 0 0 l [] []
 |s1 (l:List Int) (m:Ms) (hm:m.kd=1):Bs cur el false false 0 4 l [m] []
 |s2 (l:List Int):Bs cur el false false 1 4 l [] []
 |m1 (l:List Int) (m:Ms) (hm:m.kd=2):Bs cur el false false 0 5 l [m] []
 |m2 (l:List Int):Bs cur el false false 2 5 l [] []
 |p7 (l:List Int) (a:Ms) (ha:a.kd=11):Bs cur el false false 0 7 l [] [a]
 |p8 (l:List Int) (a:Ms) (ha:a.kd=11):Bs cur el false false 0 8 l [] [a]
 |p9 (l:List Int) (a:Ms) (ha:a.kd=11):Bs cur el false false 0 9 l [] [a]
 |gn (l:List Int) (m:Ms) (hm:m.kd=3):Bs cur el false false 0 8 l [m] []
 |rS (l:List Int) (a:Ms) (ha:a.kd=8) (hl:a.l=cur):Bs cur el false true 0 4 l [] [a]
 |r1:Bs cur el false true 0 1 cur [] []
 |rU1 (m:Ms) (hm:m.kd=2):Bs cur el false true 0 6 cur [m] []
 |rU2:Bs cur el false true 2 6 cur [] []
 |rO (l:List Int) (m:Ms) (hm:m.kd=3) (hd:m.di=false):Bs cur el false true 0 7 l [m] []
 |oE (l:List Int) (a:Ms) (ha:a.kd=9) (hl:a.l=cur) (he:el=cur):Bs cur el true false 0 4 l [] [a]
 |oM (l:List Int) (a:Ms) (ha:a.kd=10) (hl:a.l=cur) (he:el=cur):Bs cur el true false 0 5 l [] [a]
 |oU (a:Ms) (ha:a.kd=10) (hl:a.l=cur) (he:el=cur):Bs cur el true false 0 6 cur [] [a]
 |o2 (he:el=cur):Bs cur el true false 0 2 cur [] []
 |o3:Bs cur el true false 0 3 cur [] []
 |oO (l:List Int) (m:Ms) (hm:m.kd=3) (hd:m.di=false) (he:el=cur):Bs cur el true false 0 7 l [m] []
 |oD (m:Ms) (hm:m.kd=3) (hd:m.di=true) (hl:m.l=cur):Bs cur el true false 0 9 cur [m] []
inductive InU:Nat→List Ms→Prop
 |z:InU 0 []
 |s (m:Ms) (hm:m.kd=1):InU 4 [m]
 |m (m:Ms) (hm:m.kd=2):InU 5 [m]
 |g (m:Ms) (hm:m.kd=3):InU 8 [m]
inductive KeU (cur:List Int):Nat→List Int→List Ms→Prop
 |r:KeU cur 1 cur []
 |u (m:Ms) (hm:m.kd=2):KeU cur 6 cur [m]
 |o (l:List Int) (m:Ms) (hm:m.kd=3) (hd:m.di=false):KeU cur 7 l [m]
inductive Ak (cur el:List Int) (a:Ms):Bool→Bool→Nat→List Int→List Ms→Prop
 |inv (ow sh:Bool) (st:Nat) (l:List Int) (U:List Ms) (hk:a.kd=6) (hke:a.ke=false) (ho:(ow||sh)=true) (hd:a.di=true→ow=true∧a.l=cur) (hc:a.di=false→ow=true→el=cur) (hU:InU st U):Ak cur el a ow sh st l U
 |dnK (st:Nat) (l:List Int) (U:List Ms) (hk:a.kd=7) (hke:a.ke=true) (hd:a.di=true→a.l=cur) (hc:a.di=false→el=cur) (hU:KeU cur st l U):Ak cur el a true false st l U
 |dnG (l:List Int) (m:Ms) (hk:a.kd=7) (hke:a.ke=false) (hd:a.di=true→a.l=cur) (hc:a.di=false→el=cur) (hm:m.kd=3):Ak cur el a true false 8 l [m]
inductive Rel (cur el:List Int) (kt:Int):Bool→Bool→Bool→Nat→Nat→List Int→List Ms→List Ms→List Ms→Prop
 |base {ow sh:Bool} {b st:Nat} {l:List Int} {U D:List Ms} (h:Bs cur el ow sh b st l U D):Rel cur el kt ow sh false b st l U [] D
 |told {ow sh:Bool} {st:Nat} {l:List Int} {U D:List Ms} (a:Ms) (h:Bs cur el ow sh 0 st l U D) (ha:a.kd=kt) (ho:(ow||sh)=true) (h13:kt=13→ow=true):Rel cur el kt ow sh true 0 st l U [] (D++[a])
 |ack {ow sh:Bool} {st:Nat} {l:List Int} {U:List Ms} (a:Ms) (h:Ak cur el a ow sh st l U) (hk:kt=12→a.ke=false):Rel cur el kt ow sh true 0 st l U [a] []
section
variable {cur el:List Int} {kt:Int} {ow sh w:Bool} {b st st':Nat} {l l':List Int} {U N D ms:List Ms}
theorem Bs.ask {li:Int} (h:Bs cur el ow sh b st l U D) (a:AOkN li st l st' l' ms):Bs cur el ow sh b st' l' (U++ms) D:=by
 cases a with
 |askS=>cases h;exact .s1 _ _ rfl
 |askM=>cases h;exact .m1 _ _ rfl
 |up=>cases h;exact .rU1 _ rfl
 |outS=>cases h;exact .rO _ _ rfl rfl
 |outE=>cases h;exact .oO _ _ rfl rfl (by assumption)
 |outM l m hk hl hd hke hm=>cases h;exact .oD _ hk hd hm
theorem Ak.ask {li:Int} {m:Ms} (h:Ak cur el m ow sh st l U) (a:AOkN li st l st' l' ms):Ak cur el m ow sh st' l' (U++ms):=by
 cases h with
 |inv ow sh st l U hk hke ho hd hc hU=>
  refine .inv _ _ _ _ _ hk hke ho hd hc ?_
  cases a with
  |askS=>cases hU;exact .s _ rfl
  |askM=>cases hU;exact .m _ rfl
  |up=>cases hU
  |outS=>cases hU
  |outE=>cases hU
  |outM=>cases hU
 |dnK st l U hk hke hd hc hU=>
  refine .dnK _ _ _ hk hke hd hc ?_
  cases a with
  |askS=>cases hU
  |askM=>cases hU
  |up=>cases hU;exact .u _ rfl
  |outS=>cases hU;exact .o _ _ rfl rfl
  |outE=>cases hU
  |outM=>cases hU
 |dnG=>cases a
theorem Rel.ask {li:Int} (h:Rel cur el kt ow sh w b st l U N D) (a:AOkN li st l st' l' ms):Rel cur el kt ow sh w b st' l' (U++ms) N D:=by
 cases h with
 |base h=>exact .base (h.ask a)
 |told m h ha ho h13=>exact .told m (h.ask a) ha ho h13
 |ack m h hk=>exact .ack m (h.ask a) hk
theorem Bs.write (h:Bs cur el ow sh b st l U D) (hs:st=2∨st=3) (cur':List Int):Bs cur' el ow sh b 3 cur' U D∧l=cur∧ow=true:=by
 rcases hs with rfl|rfl<;>cases h<;>exact ⟨.o3,rfl,rfl⟩
theorem Rel.write (h:Rel cur el kt ow sh w b st l U N D) (hs:st=2∨st=3) (cur':List Int):Rel cur' el kt ow sh w b 3 cur' U N D∧l=cur∧ow=true:=by
 cases h with
 |base h=>exact ⟨.base (h.write hs cur').1,(h.write hs cur').2⟩
 |told m h ha ho h13=>exact ⟨.told m (h.write hs cur').1 ha ho h13,(h.write hs cur').2⟩
 |ack m h=>
  exfalso
  cases h with
  |inv ow sh st l U hk hke ho hd hc hU=>cases hU<;>omega
  |dnK st l U hk hke hd hc hU=>cases hU<;>omega
  |dnG=>omega
theorem Rel.reads (h:Rel cur el kt ow sh w b st l U N D) (hs:st=1∨st=2∨st=3∨st=6):l=cur∧(ow=true∨sh=true)∧((st=2∨st=3)→ow=true):=by
 have hb:∀{b D},Bs cur el ow sh b st l U D→l=cur∧(ow=true∨sh=true)∧((st=2∨st=3)→ow=true):=by
  intro b D h
  rcases hs with rfl|rfl|rfl|rfl<;>cases h<;>simp
 cases h with
 |base h=>exact hb h
 |told m h ha ho h13=>exact hb h
 |ack m h=>
  cases h with
  |inv ow sh st l U hk hke ho hd hc hU=>cases hU<;>omega
  |dnK st l U hk hke hd hc hU=>
   cases hU with
   |r=>simp
   |u m hm=>simp
   |o l m hm hd=>omega
  |dnG=>omega
theorem Bs.anyEl (h:Bs cur el false sh b st l U D) (el':List Int):Bs cur el' false sh b st l U D:=by
 cases h
 all_goals constructor<;>assumption
theorem Rel.anyEl (h:Rel cur el kt false sh w b st l U N D) (el':List Int):Rel cur el' kt false sh w b st l U N D:=by
 cases h with
 |base h=>exact .base (h.anyEl el')
 |told m h ha ho h13=>exact .told m (h.anyEl el') ha ho h13
 |ack m h hk=>
  refine .ack m ?_ hk
  cases h with
  |inv ow sh st l U hk hke ho hd hc hU=>exact .inv _ _ _ _ _ hk hke ho hd (fun _ h=>by cases h) hU
theorem Bs.none (h:Bs cur el false false b st l U D) (cur' el':List Int):Bs cur' el' false false b st l U D:=by
 cases h
 all_goals constructor<;>assumption
theorem Rel.none (h:Rel cur el kt false false w b st l U N D) (cur' el':List Int) (kt':Int):w=false∧N=[]∧Rel cur' el' kt' false false false b st l U [] D:=by
 cases h with
 |base h=>exact ⟨rfl,rfl,.base (h.none cur' el')⟩
 |told m h ha ho h13=>cases ho
 |ack m h=>
  cases h with
  |inv ow sh st l U hk hke ho hd hc hU=>cases ho
theorem Rel.anyKt (h:Rel cur el kt ow sh false b st l U N D) (kt':Int):Rel cur el kt' ow sh false b st l U N D∧N=[]:=by
 cases h with
 |base h=>exact ⟨.base h,rfl⟩
theorem Rel.tell (h:Rel cur el kt ow sh false 0 st l U N D) (kt':Int) (a:Ms) (ha:a.kd=kt') (ho:(ow||sh)=true) (h13:kt'=13→ow=true):Rel cur el kt' ow sh true 0 st l U N (D++[a]):=by
 cases h with
 |base h=>exact .told a h ha ho h13
theorem Rel.getS {m:Ms} {V:List Ms} (h:Rel cur el kt ow sh false b st l (m::V) N D) (hm:m.kd=1):ow=false∧sh=false∧(∀el' kt',Rel cur el' kt' false false false 1 st l V N D)∧
 (∀kt' (a:Ms),a.kd=8→a.l=cur→Rel cur el kt' false true false 0 st l V N (D++[a]))∧(∀kt' (a:Ms),a.kd=9→a.l=cur→el=cur→Rel cur el kt' true false false 0 st l V N (D++[a])):=by
 cases h with
 |base h=>
  cases h with
  |s1 l m hm=>exact ⟨rfl,rfl,fun _ _=>.base (.s2 _),fun _ a h1 h2=>.base (.rS _ a h1 h2),fun _ a h1 h2 h3=>.base (.oE _ a h1 h2 h3)⟩
  |m1 l m hm=>omega
  |gn l m hm=>omega
  |rU1 m hm=>omega
  |rO l m hm hd=>omega
  |oO l m hm hd he=>omega
  |oD m hm hd hl=>omega
theorem Rel.getM {m:Ms} {V:List Ms} (h:Rel cur el kt ow sh false b st l (m::V) N D) (hm:m.kd=2):ow=false∧(∀el' kt',Rel cur el' kt' false sh false 2 st l V N D)∧
 (∀kt' (a:Ms),a.kd=10→a.l=cur→el=cur→Rel cur el kt' true false false 0 st l V N (D++[a])):=by
 cases h with
 |base h=>
  cases h with
  |s1 l m hm=>omega
  |m1 l m hm=>exact ⟨rfl,fun _ _=>.base (.m2 _),fun _ a h1 h2 h3=>.base (.oM _ a h1 h2 h3)⟩
  |gn l m hm=>omega
  |rU1 m hm=>exact ⟨rfl,fun _ _=>.base .rU2,fun _ a h1 h2 h3=>.base (.oU a h1 h2 h3)⟩
  |rO l m hm hd=>omega
  |oO l m hm hd he=>omega
  |oD m hm hd hl=>omega
theorem Rel.put {m:Ms} {V:List Ms} (h:Rel cur el kt ow sh false b st l (m::V) N D) (hm:m.kd=3):(ow=true→(m.di=true→m.l=cur)∧(m.di=false→el=cur))∧
 (∀cur' el' kt' (a:Ms),a.kd=11→Rel cur' el' kt' false false false 0 st l V N (D++[a])):=by
 cases h with
 |base h=>
  cases h with
  |s1 l m hm=>omega
  |m1 l m hm=>omega
  |gn l m hm=>exact ⟨fun h=>(by cases h),fun _ _ _ a h1=>.base (.p8 _ a h1)⟩
  |rU1 m hm=>omega
  |rO l m hm hd=>exact ⟨fun h=>(by cases h),fun _ _ _ a h1=>.base (.p7 _ a h1)⟩
  |oO l m hm hd he=>exact ⟨fun _=>⟨fun h=>absurd (hd.symm.trans h) (by decide),fun _=>he⟩,fun _ _ _ a h1=>.base (.p7 _ a h1)⟩
  |oD m hm hd hl=>exact ⟨fun _=>⟨fun _=>hl,fun h=>absurd (hd.symm.trans h) (by decide)⟩,fun _ _ _ a h1=>.base (.p9 _ a h1)⟩
theorem Rel.settleS (h:Rel cur el kt ow sh w 1 st l U N D):w=false∧ow=false∧sh=false∧∀kt' (a:Ms),a.kd=8→a.l=cur→∀el',Rel cur el' kt' false true false 0 st l U N (D++[a]):=by
 cases h with
 |base h=>
  cases h with
  |s2 l=>exact ⟨rfl,rfl,rfl,fun _ a h1 h2 _=>.base (.rS _ a h1 h2)⟩
theorem Rel.settleM (h:Rel cur el kt ow sh w 2 st l U N D):w=false∧ow=false∧∀kt' (a:Ms),a.kd=10→a.l=cur→∀el',el'=cur→Rel cur el' kt' true false false 0 st l U N (D++[a]):=by
 cases h with
 |base h=>
  cases h with
  |m2 l=>exact ⟨rfl,rfl,fun _ a h1 h2 _ h3=>.base (.oM _ a h1 h2 h3)⟩
  |rU2=>exact ⟨rfl,rfl,fun _ a h1 h2 _ h3=>.base (.oU a h1 h2 h3)⟩
theorem Ak.done {a:Ms} (h:Ak cur el a ow sh st l U) (el':List Int):Bs cur el' false a.ke 0 st l U []∧(ow=true→(a.di=true→a.l=cur)∧(a.di=false→el=cur))∧(ow=false→a.di=false):=by
 cases h with
 |inv ow sh st l U hk hke ho hd hc hU=>
  refine ⟨?_,fun h=>⟨fun h1=>(hd h1).2,fun h1=>hc h1 h⟩,fun h=>?_⟩
  ·rw [hke]
   cases hU with
   |z=>exact .i _
   |s m hm=>exact .s1 _ _ hm
   |m m hm=>exact .m1 _ _ hm
   |g m hm=>exact .gn _ _ hm
  ·cases h1:a.di
   ·rfl
   ·have:=(hd h1).1;rw [h] at this;cases this
 |dnK st l U hk hke hd hc hU=>
  refine ⟨?_,fun h=>⟨hd,hc⟩,fun h=>by cases h⟩
  rw [hke]
  cases hU with
  |r=>exact .r1
  |u m hm=>exact .rU1 _ hm
  |o l m hm hd=>exact .rO _ _ hm hd
 |dnG l m hk hke hd hc hm=>exact ⟨by rw [hke];exact .gn _ _ hm,fun h=>⟨hd,hc⟩,fun h=>by cases h⟩
theorem Rel.answer {a:Ms} {V:List Ms} (h:Rel cur el kt ow sh w b st l U (a::V) D):w=true∧V=[]∧b=0∧(ow||sh)=true∧(∀el' kt',Rel cur el' kt' false a.ke false 0 st l U V D)∧(ow=true→(a.di=true→a.l=cur)∧(a.di=false→el=cur))∧(ow=false→a.di=false)∧(kt=12→a.ke=false):=by
 cases h with
 |ack m h hk=>
  refine ⟨rfl,rfl,rfl,?_,fun el' _=>.base (h.done el').1,(h.done el).2.1,(h.done el).2.2,hk⟩
  cases h with
  |inv ow sh st l U hk hke ho hd hc hU=>exact ho
  |dnK=>rfl
  |dnG=>rfl
def HV (m:Ms) (x:Slt) (st':Int) (l':List Int):Prop:=
 (tb m.kd x.st=10→st'=0)∧(tb m.kd x.st=11→st'=x.st∧l'=x.l)∧(tb m.kd x.st≠10→tb m.kd x.st≠11→st'=tb m.kd x.st∧l'=Y0 m x (tb m.kd x.st))
theorem HV.drop {m:Ms} {x:Slt} {st':Int} {l':List Int} (h:HV m x st' l') (ht:tb m.kd x.st=10):st'.toNat=0:=by rw [h.1 ht];rfl
theorem HV.becomes {m:Ms} {x:Slt} {st':Int} {l':List Int} (h:HV m x st' l') {n:Nat} (ht:tb m.kd x.st=(n:Int)) (hn:n<10):st'.toNat=n∧l'=Y0 m x n:=by
 obtain ⟨a,b⟩:=h.2.2 (by omega) (by omega)
 rw [ht] at a b
 exact ⟨by omega,b⟩
theorem nat_of {x:Int} {n:Nat} (h0:0≤x) (h:x.toNat=n):x=(n:Int):=by omega
theorem Bs.hear {m:Ms} {V:List Ms} {x:Slt} (h0:0≤x.st) (hst:x.st.toNat=st) (h:Bs cur el ow sh b st x.l U (m::V)) {st':Int} {l':List Int} (hv:HV m x st' l'):
 tb m.kd x.st≠0∧V=[]∧Z0 m.kd x (tb m.kd x.st)=[]∧Bs cur el ow sh b st'.toNat l' U []:=by
 have hs:=nat_of h0 hst
 generalize hxl:x.l=xl at h
 cases h with
 |p7 l a ha=>
  have ht:tb m.kd x.st=10:=by rw [ha,hs];rfl
  rw [hv.drop ht,ht,ha];exact ⟨by decide,rfl,rfl,.i _⟩
 |p8 l a ha=>
  have ht:tb m.kd x.st=10:=by rw [ha,hs];rfl
  rw [hv.drop ht,ht,ha];exact ⟨by decide,rfl,rfl,.i _⟩
 |p9 l a ha=>
  have ht:tb m.kd x.st=10:=by rw [ha,hs];rfl
  rw [hv.drop ht,ht,ha];exact ⟨by decide,rfl,rfl,.i _⟩
 |rS l a ha hl=>
  have ht:tb m.kd x.st=((1:Nat):Int):=by rw [ha,hs];rfl
  obtain ⟨e1,e2⟩:=hv.becomes ht (by decide)
  rw [show Y0 m x ((1:Nat):Int)=cur by unfold Y0;rw [if_neg (by decide),if_neg (by omega),hl]] at e2
  rw [e1,e2,ht,ha];exact ⟨by decide,rfl,rfl,.r1⟩
 |oE l a ha hl he=>
  have ht:tb m.kd x.st=((2:Nat):Int):=by rw [ha,hs];rfl
  obtain ⟨e1,e2⟩:=hv.becomes ht (by decide)
  rw [show Y0 m x ((2:Nat):Int)=cur by unfold Y0;rw [if_neg (by decide),if_neg (by omega),hl]] at e2
  rw [e1,e2,ht,ha];exact ⟨by decide,rfl,rfl,.o2 he⟩
 |oM l a ha hl he=>
  have ht:tb m.kd x.st=((2:Nat):Int):=by rw [ha,hs];rfl
  obtain ⟨e1,e2⟩:=hv.becomes ht (by decide)
  rw [show Y0 m x ((2:Nat):Int)=cur by unfold Y0;rw [if_neg (by decide),if_neg (by omega),hl]] at e2
  rw [e1,e2,ht,ha];exact ⟨by decide,rfl,rfl,.o2 he⟩
 |oU a ha hl he=>
  have ht:tb m.kd x.st=((2:Nat):Int):=by rw [ha,hs];rfl
  obtain ⟨e1,e2⟩:=hv.becomes ht (by decide)
  rw [show Y0 m x ((2:Nat):Int)=cur by unfold Y0;rw [if_neg (by decide),if_neg (by omega),hl]] at e2
  rw [e1,e2,ht,ha];exact ⟨by decide,rfl,rfl,.o2 he⟩
theorem Bs.gives {m:Ms} {x:Slt} (h0:0≤x.st) (hst:x.st.toNat=st) (h:Bs cur el ow sh 0 st x.l U []) (hm:m.kd=12∨m.kd=13∧ow=true) (ho:(ow||sh)=true) {st':Int} {l':List Int} (hv:HV m x st' l'):
 tb m.kd x.st≠0∧∃a,Z0 m.kd x (tb m.kd x.st)=[a]∧(m.kd=12→a.ke=false)∧Ak cur el a ow sh st'.toNat l' U:=by
 have hs:=nat_of h0 hst
 have hc:∀kd ke,x.st≠3→x.st≠9→JL kd x ke=ms4 kd x.li false ke:=fun kd ke h1 h2=>by unfold JL;rw [if_neg (by omega)]
 have hd:∀kd ke,x.st=3∨x.st=9→JL kd x ke=⟨kd,x.li,true,ke,x.l,x.h⟩:=fun kd ke h1=>by unfold JL;rw [if_pos h1]
 have hke:(JL 6 x false).ke=false:=by unfold JL;split<;>rfl
 rcases hm with hm|⟨hm,rfl⟩
 ·have ha:∀t,Z0 m.kd x t=[JL 6 x false]:=fun t=>by unfold Z0;rw [if_pos hm]
  generalize hxl:x.l=xl at h
  cases h with
  |i=>cases ho
  |s1=>cases ho
  |m1=>cases ho
  |gn=>cases ho
  |r1=>
   have ht:tb m.kd x.st=10:=by rw [hm,hs];rfl
   rw [hv.drop ht]
   exact ⟨by rw [ht];decide,_,ha _,fun _=>hke,by rw [hc _ _ (by omega) (by omega)];exact .inv _ _ _ _ _ rfl rfl rfl (fun h=>by cases h) (fun _ h=>by cases h) .z⟩
  |rU1 m' hm'=>
   have ht:tb m.kd x.st=((5:Nat):Int):=by rw [hm,hs];rfl
   obtain ⟨e1,e2⟩:=hv.becomes ht (by decide)
   rw [e1]
   exact ⟨by rw [ht];decide,_,ha _,fun _=>hke,by rw [hc _ _ (by omega) (by omega)];exact .inv _ _ _ _ _ rfl rfl rfl (fun h=>by cases h) (fun _ h=>by cases h) (.m _ hm')⟩
  |rO l m' hm' hd'=>
   have ht:tb m.kd x.st=((8:Nat):Int):=by rw [hm,hs];rfl
   obtain ⟨e1,e2⟩:=hv.becomes ht (by decide)
   rw [e1]
   exact ⟨by rw [ht];decide,_,ha _,fun _=>hke,by rw [hc _ _ (by omega) (by omega)];exact .inv _ _ _ _ _ rfl rfl rfl (fun h=>by cases h) (fun _ h=>by cases h) (.g _ hm')⟩
  |o2 he=>
   have ht:tb m.kd x.st=10:=by rw [hm,hs];rfl
   rw [hv.drop ht]
   exact ⟨by rw [ht];decide,_,ha _,fun _=>hke,by rw [hc _ _ (by omega) (by omega)];exact .inv _ _ _ _ _ rfl rfl rfl (fun h=>by cases h) (fun _ _=>he) .z⟩
  |o3=>
   have ht:tb m.kd x.st=10:=by rw [hm,hs];rfl
   rw [hv.drop ht]
   exact ⟨by rw [ht];decide,_,ha _,fun _=>hke,by rw [hd _ _ (by omega)];exact .inv _ _ _ _ _ rfl rfl rfl (fun _=>⟨rfl,hxl⟩) (fun h=>by cases h) .z⟩
  |oO l m' hm' hd' he=>
   have ht:tb m.kd x.st=((8:Nat):Int):=by rw [hm,hs];rfl
   obtain ⟨e1,e2⟩:=hv.becomes ht (by decide)
   rw [e1]
   exact ⟨by rw [ht];decide,_,ha _,fun _=>hke,by rw [hc _ _ (by omega) (by omega)];exact .inv _ _ _ _ _ rfl rfl rfl (fun h=>by cases h) (fun _ _=>he) (.g _ hm')⟩
  |oD m' hm' hd' hl'=>
   have ht:tb m.kd x.st=((8:Nat):Int):=by rw [hm,hs];rfl
   obtain ⟨e1,e2⟩:=hv.becomes ht (by decide)
   rw [e1]
   exact ⟨by rw [ht];decide,_,ha _,fun _=>hke,by rw [hd _ _ (by omega)];exact .inv _ _ _ _ _ rfl rfl rfl (fun _=>⟨rfl,hxl⟩) (fun h=>by cases h) (.g _ hm')⟩
 ·have ha:∀t,Z0 m.kd x t=[JL 7 x (t==1)]:=fun t=>by unfold Z0;rw [if_neg (by omega),if_pos hm]
  generalize hxl:x.l=xl at h
  cases h with
  |o2 he=>
   have ht:tb m.kd x.st=((1:Nat):Int):=by rw [hm,hs];rfl
   obtain ⟨e1,e2⟩:=hv.becomes ht (by decide)
   rw [show Y0 m x ((1:Nat):Int)=cur by unfold Y0;rw [if_neg (by decide),if_pos hm,hxl]] at e2
   rw [e1,e2]
   exact ⟨by rw [ht];decide,_,ha _,fun h=>absurd (hm.symm.trans h) (by decide),by rw [ht,hc _ _ (by omega) (by omega)];exact .dnK _ _ _ rfl rfl (fun h=>by cases h) (fun _=>he) .r⟩
  |o3=>
   have ht:tb m.kd x.st=((1:Nat):Int):=by rw [hm,hs];rfl
   obtain ⟨e1,e2⟩:=hv.becomes ht (by decide)
   rw [show Y0 m x ((1:Nat):Int)=cur by unfold Y0;rw [if_neg (by decide),if_pos hm,hxl]] at e2
   rw [e1,e2]
   exact ⟨by rw [ht];decide,_,ha _,fun h=>absurd (hm.symm.trans h) (by decide),by rw [ht,hd _ _ (by omega)];exact .dnK _ _ _ rfl rfl (fun _=>hxl) (fun h=>by cases h) .r⟩
  |oO l m' hm' hd' he=>
   have ht:tb m.kd x.st=((8:Nat):Int):=by rw [hm,hs];rfl
   obtain ⟨e1,e2⟩:=hv.becomes ht (by decide)
   rw [e1]
   exact ⟨by rw [ht];decide,_,ha _,fun h=>absurd (hm.symm.trans h) (by decide),by rw [ht,hc _ _ (by omega) (by omega)];exact .dnG _ _ rfl rfl (fun h=>by cases h) (fun _=>he) hm'⟩
  |oD m' hm' hd' hl'=>
   have ht:tb m.kd x.st=((8:Nat):Int):=by rw [hm,hs];rfl
   obtain ⟨e1,e2⟩:=hv.becomes ht (by decide)
   rw [e1]
   exact ⟨by rw [ht];decide,_,ha _,fun h=>absurd (hm.symm.trans h) (by decide),by rw [ht,hd _ _ (by omega)];exact .dnG _ _ rfl rfl (fun _=>hxl) (fun h=>by cases h) hm'⟩
theorem Bs.one (h:Bs cur el ow sh b st l U D):D=[]∨∃a,D=[a]:=by
 cases h<;>simp
theorem Rel.hear {m:Ms} {V:List Ms} {x:Slt} (h0:0≤x.st) (hkt:kt=12∨kt=13) (h:Rel cur el kt ow sh w b x.st.toNat x.l U N (m::V)) {st':Int} {l':List Int} (hv:HV m x st' l'):
 tb m.kd x.st≠0∧Rel cur el kt ow sh w b st'.toNat l' U (N++Z0 m.kd x (tb m.kd x.st)) V:=by
 generalize hst:x.st.toNat=st at h
 generalize hxl:x.l=xl at h
 generalize hDD:m::V=DD at h
 cases h with
 |base h=>
  subst hDD hxl
  obtain ⟨a1,rfl,a3,a4⟩:=h.hear h0 hst hv
  rw [a3]
  exact ⟨a1,.base a4⟩
 |told a h ha ho h13=>
  subst hxl
  rcases h.one with rfl|⟨d,rfl⟩
  ·simp only [List.nil_append,List.cons.injEq] at hDD
   obtain ⟨rfl,rfl⟩:=hDD
   obtain ⟨a1,r,a2,ake,a3⟩:=h.gives (m:=m) h0 hst (by rcases hkt with h1|h1;exact .inl (ha.trans h1);exact .inr ⟨ha.trans h1,h13 h1⟩) ho hv
   rw [a2]
   exact ⟨a1,.ack r a3 (fun h1=>ake (ha.trans h1))⟩
  ·simp only [List.cons_append,List.nil_append,List.cons.injEq] at hDD
   obtain ⟨rfl,rfl⟩:=hDD
   obtain ⟨a1,_,a3,a4⟩:=h.hear h0 hst hv
   rw [a3]
   exact ⟨a1,.told (D:=[]) a a4 ha ho h13⟩
 |ack a h=>cases hDD
end
end
section
def ktOf (e:En):Int:=if e.bu=2∨e.bu=5 then 12 else 13
theorem ktOf_or (e:En):ktOf e=12∨ktOf e=13:=by unfold ktOf;split<;>simp
def bOf (e:En) (k:Nat):Nat:=if e.by_=(k:Int) then (if e.bu=1 then 1 else if e.bu=2 then 2 else 0) else 0
def Lo (n:Nat) (e:En):Prop:=e.ow<n∧e.by_<n∧(∀k:Nat,k<8→hasM e.sh k=true→k<n)∧∀k:Nat,k<8→hasM e.wa k=true→k<n
structure LI (co:Nat) (cur X:List Int) (e:En) (st:Nat→Nat) (l:Nat→List Int) (U N D:Nat→List Ms):Prop where
 good:JG e=true
 lo:Lo co e
 rel:∀j:Nat,j<co→Rel cur e.l (ktOf e) (decide (e.ow=(j:Int))) (hasM e.sh j) (hasM e.wa j) (bOf e j) (st j) (l j) (U j) (N j) (D j)
 data:e.he=true→e.ow= -1→e.l=cur
 mem0:e.he=false→X=cur
 mem1:e.he=true→e.di=false→X=e.l
 wait1:e.bu=1→e.ow≠ -1→hasM e.wa e.ow=true
 wait2:e.bu=2→∀j:Nat,j<8→(hasM e.sh j=true∨e.ow=(j:Int))→(j:Int)≠e.by_→hasM e.wa j=true
def Qce (e:En) (l:List Int) (h:l.length=8):En:=if e.he=true then e else (e.setHe true).setL l h
def Qel (li:Int) (a:Ms):Prop:=mg a=true∧Y1 a.kd=true∧a.li=li∧a.kd≠14
theorem Qem {li:Int} (h:Qc4 li=true) (kt:Int) (hk:kt=11∨kt=12∨kt=13):Qel li (ms4 kt li false false):=by
 refine ⟨?_,?_,rfl,by show kt≠14;omega⟩
 ·rcases hk with rfl|rfl|rfl<;>simp [mg,ms4,Qc5,h]
 ·rcases hk with rfl|rfl|rfl<;>rfl
theorem Qhr {li:Int} (h:Qc4 li=true) (kt:Int) (hk:kt=8∨kt=9∨kt=10) (l:List Int) (hl:l.length=8):Qel li (ms5 kt li l hl):=by
 refine ⟨?_,?_,rfl,by show kt≠14;omega⟩
 ·rcases hk with rfl|rfl|rfl<;>simp [mg,ms5,Qc5,mayW,h]
 ·rcases hk with rfl|rfl|rfl<;>rfl
theorem bOf_0 {e:En} (h:e.bu=0) (k:Nat):bOf e k=0:=by unfold bOf;rw [h];simp
theorem bOf_ne {e:En} {k:Nat} (h:e.by_≠(k:Int)):bOf e k=0:=by unfold bOf;rw [if_neg h]
theorem bOf_fl {e:En} (k:Nat) (h:e.bu=4∨e.bu=5):bOf e k=0:=by unfold bOf;rcases h with h|h<;>rw [h]<;>simp
theorem XX (c:Int) (hc:isC c=true) (j:Nat):hasM (bitM c) (j:Int)=decide (c=(j:Int)):=by rw [Qdi,hc,Bool.true_and]
section
variable {co:Nat} {cur X:List Int} {e:En} {st:Nat→Nat} {l:Nat→List Int} {U N D:Nat→List Ms}
theorem LI.free (h:LI co cur X e st l U N D) (hh:e.he=true) (hb:e.bu=0):Gp e∧e.by_=0∧e.wa=0#8∧∀j:Nat,j<co→Rel cur e.l (ktOf e) (decide (e.ow=(j:Int))) (hasM e.sh j) false 0 (st j) (l j) (U j) (N j) (D j):=by
 obtain ⟨h1,_,h2,h3⟩:=busy0 hh h.good hb
 refine ⟨h1,h2,h3,fun j hj=>?_⟩
 have:=h.rel j hj
 rw [h3,ZM,bOf_0 hb] at this
 exact this
theorem LI.here (h:LI co cur X e st l U N D) (hX:X.length=8):LI co cur X (Qce e X hX) st l U N D∧(Qce e X hX).he=true∧(Qce e X hX).bu=e.bu:=by
 unfold Qce
 by_cases hh:e.he=true
 ·rw [if_pos hh];exact ⟨h,hh,rfl⟩
 ·rw [if_neg hh]
  have hh':e.he=false:=by simpa using hh
  have he:e=enE:=by
   have:=h.good
   unfold JG at this
   rw [if_neg hh] at this
   simpa using this
  have hc:=h.mem0 hh'
  have hr:=h.rel
  subst he
  refine ⟨⟨by simp [JG,Qfg,Qb2,En.setHe,En.setL,enE],h.lo,?_,fun _ _=>hc,fun h1=>absurd (show true=false from h1) (by decide),fun _ _=>rfl,fun h1=>absurd (show (0:Int)=1 from h1) (by decide),fun h1=>absurd (show (0:Int)=2 from h1) (by decide)⟩,rfl,rfl⟩
  intro j hj
  have h1:=hr j hj
  have e1:decide (((enE.setHe true).setL X hX).ow=(j:Int))=false:=by
   show decide ((-1:Int)=(j:Int))=false
   exact decide_eq_false (by omega)
  have e2:decide (enE.ow=(j:Int))=false:=e1
  rw [e2] at h1
  rw [e1]
  exact h1.anyEl _
theorem LI.waits (h:LI co cur X e st l U N D) (h8:co≤8) (hh:e.he=true) (hb:e.bu=0) {k:Nat} (hk:k<co) {m:Ms} {kt:Int} {o:Mk} (hkt:kt=if m.kd=2∨m.kd=5 then 12 else 13) (hkd:m.kd=1∨m.kd=2∨m.kd=4∨m.kd=5)
 (hg:JG (JR e k m o kt).1=true) (ho:∀j:Nat,j<8→hasM o j=true→hasM e.sh j=true∨e.ow=(j:Int)) (h13:kt=13→∀j:Nat,j<8→hasM o j=true→e.ow=(j:Int))
 {U':Nat→List Ms} (hU:∀j,j≠k→U' j=U j) (hU2:m.kd=4∨m.kd=5→U' k=U k) (hR:m.kd=1∨m.kd=2→hasM o k=false∧Rel cur e.l kt (decide (e.ow=(k:Int))) (hasM e.sh k) false m.kd.toNat (st k) (l k) (U' k) (N k) (D k))
 (w1:m.kd=1→e.ow≠ -1→hasM o e.ow=true) (w2:m.kd=2→∀j:Nat,j<8→(hasM e.sh j=true∨e.ow=(j:Int))→(j:Int)≠k→hasM o j=true):
 LI co cur X (JR e k m o kt).1 st l U' N (fun j=>D j++if hasM o j=true then [ms4 kt m.li false false] else []):=by
 obtain ⟨g1,g2,g3,hr⟩:=h.free hh hb
 refine ⟨hg,⟨h.lo.1,by show (k:Int)<co;omega,h.lo.2.2.1,?_⟩,?_,h.data,h.mem0,h.mem1,w1,w2⟩
 ·intro j hj h1
  rcases ho j hj h1 with h2|h2
  ·exact h.lo.2.2.1 j hj h2
  ·have:=h.lo.1;omega
 ·intro j hj
  have hkt':ktOf (JR e k m o kt).1=kt:=by rw [hkt];rfl
  rw [hkt']
  show Rel cur e.l kt (decide (e.ow=(j:Int))) (hasM e.sh j) (hasM o j) (bOf (JR e k m o kt).1 j) (st j) (l j) (U' j) (N j) (D j++if hasM o j=true then [ms4 kt m.li false false] else [])
  have hby:(JR e k m o kt).1.by_=(k:Int):=rfl
  have hbu:(JR e k m o kt).1.bu=m.kd:=rfl
  by_cases hjk:j=k
  ·subst hjk
   by_cases hf:m.kd=4∨m.kd=5
   ·rw [hU2 hf,bOf_fl j (by rw [hbu];exact hf)]
    cases h1:hasM o (j:Int)
    ·simp only [Bool.false_eq_true,if_false,List.append_nil]
     exact ((hr j hj).anyKt kt).1
    ·rw [if_pos rfl]
     refine (hr j hj).tell kt _ rfl ?_ ?_
     ·rcases ho j (by omega) h1 with h2|h2<;>simp [h2]
     ·intro h2;simpa using h13 h2 j (by omega) h1
   ·have h12:m.kd=1∨m.kd=2:=by omega
    obtain ⟨a,b⟩:=hR h12
    rw [a]
    simp only [Bool.false_eq_true,if_false,List.append_nil]
    have:bOf (JR e j m o kt).1 j=m.kd.toNat:=by
     unfold bOf
     rw [if_pos hby,hbu]
     rcases h12 with h|h<;>rw [h]<;>rfl
    rw [this]
    exact b
  ·rw [hU j hjk,bOf_ne (by rw [hby];omega)]
   cases h1:hasM o (j:Int)
   ·simp only [Bool.false_eq_true,if_false,List.append_nil]
    exact ((hr j hj).anyKt kt).1
   ·rw [if_pos rfl]
    refine (hr j hj).tell kt _ rfl ?_ ?_
    ·rcases ho j (by omega) h1 with h2|h2<;>simp [h2]
    ·intro h2;simpa using h13 h2 j (by omega) h1
theorem LI.owns {kt0:Int} (h8:co≤8) (hh:e.he=true) (hb:e.bu=0) (hby:e.by_=0) (hw:e.wa=0#8) {k:Nat} (hk:k<co) {kd li:Int} (hg:JG (JB e k kd li).1=true) (hc:e.l=cur)
 (hm1:e.di=false→X=e.l) (hn:∀j:Nat,j<co→j≠k→hasM e.sh j=false∧e.ow≠(j:Int)) {U':Nat→List Ms} (hr:∀j:Nat,j<co→j≠k→Rel cur e.l kt0 (decide (e.ow=(j:Int))) (hasM e.sh j) false 0 (st j) (l j) (U' j) (N j) (D j))
 (hR:∀a:Ms,a.kd=kd→a.l=cur→Rel cur e.l 13 true false false 0 (st k) (l k) (U' k) (N k) (D k++[a])):
 LI co cur X (JB e k kd li).1 st l U' N (fun j=>D j++if hasM (bitM (k:Int)) j=true then [ms5 kd li e.l e.h] else []):=by
 have hbu:(JB e k kd li).1.bu=0:=hb
 refine ⟨hg,⟨by show (k:Int)<co;omega,by show e.by_<co;omega,fun j _ h1=>?_,fun j _ h1=>?_⟩,?_,fun _ h1=>?_,fun h1=>?_,fun _=>hm1,fun h1=>?_,fun h1=>?_⟩
 ·have h2:hasM 0#8 (j:Int)=true:=h1
  rw [ZM] at h2;cases h2
 ·have h2:hasM e.wa (j:Int)=true:=h1
  rw [hw,ZM] at h2;cases h2
 ·intro j hj
  show Rel cur e.l (ktOf (JB e k kd li).1) (decide ((k:Int)=(j:Int))) (hasM 0#8 j) (hasM e.wa j) (bOf (JB e k kd li).1 j) (st j) (l j) (U' j) (N j) (D j++if hasM (bitM (k:Int)) j=true then [ms5 kd li e.l e.h] else [])
  rw [bOf_0 hbu,hw,ZM,XX _ (Qb0 (by omega)),show ktOf (JB e k kd li).1=13 by unfold ktOf;rw [hbu];rfl]
  by_cases hjk:j=k
  ·subst hjk
   rw [decide_eq_true rfl,if_pos rfl]
   exact hR _ rfl hc
  ·rw [decide_eq_false (by omega)]
   simp only [Bool.false_eq_true,if_false,List.append_nil]
   have h1:=hr j hj hjk
   obtain ⟨h2,h3⟩:=hn j hj hjk
   rw [h2,decide_eq_false h3] at h1
   obtain ⟨_,h4,h5⟩:=h1.none cur e.l 13
   rw [h4];exact h5
 ·have h2:(k:Int)= -1:=h1
  omega
 ·exact absurd (hh.symm.trans h1) (by decide)
 ·exact absurd (hbu.symm.trans h1) (by decide)
 ·exact absurd (hbu.symm.trans h1) (by decide)
theorem LI.shares {kt0:Int} (h8:co≤8) (hh:e.he=true) (hb:e.bu=0) (hby:e.by_=0) (hw:e.wa=0#8) {k:Nat} (hk:k<co) {li:Int} (hg:JG (Jd e k li).1=true) (hc:e.l=cur) (hlo:∀j:Nat,j<8→hasM e.sh j=true→j<co)
 (hm1:e.di=false→X=e.l) (hn:e.ow= -1) {U':Nat→List Ms} (hr:∀j:Nat,j<co→j≠k→Rel cur e.l kt0 (decide (e.ow=(j:Int))) (hasM e.sh j) false 0 (st j) (l j) (U' j) (N j) (D j))
 (hR:∀a:Ms,a.kd=8→a.l=cur→Rel cur e.l 13 false true false 0 (st k) (l k) (U' k) (N k) (D k++[a])):
 LI co cur X (Jd e k li).1 st l U' N (fun j=>D j++if hasM (bitM (k:Int)) j=true then [ms5 8 li e.l e.h] else []):=by
 have hbu:(Jd e k li).1.bu=0:=hb
 have hkC:isC (k:Int)=true:=Qb0 (by omega)
 refine ⟨hg,⟨by show e.ow<co;omega,by show e.by_<co;omega,fun j hj h1=>?_,fun j _ h1=>?_⟩,?_,fun _ _=>hc,fun h1=>?_,fun _=>hm1,fun h1=>?_,fun h1=>?_⟩
 ·have h2:hasM (e.sh|||bitM (k:Int)) (j:Int)=true:=h1
  rw [Qgs,XX _ hkC,Bool.or_eq_true,decide_eq_true_eq] at h2
  rcases h2 with h2|h2
  ·exact hlo j hj h2
  ·omega
 ·have h2:hasM e.wa (j:Int)=true:=h1
  rw [hw,ZM] at h2;cases h2
 ·intro j hj
  show Rel cur e.l (ktOf (Jd e k li).1) (decide (e.ow=(j:Int))) (hasM (e.sh|||bitM (k:Int)) j) (hasM e.wa j) (bOf (Jd e k li).1 j) (st j) (l j) (U' j) (N j) (D j++if hasM (bitM (k:Int)) j=true then [ms5 8 li e.l e.h] else [])
  rw [bOf_0 hbu,hw,ZM,Qgs,XX _ hkC,show ktOf (Jd e k li).1=13 by unfold ktOf;rw [hbu];rfl]
  by_cases hjk:j=k
  ·subst hjk
   rw [decide_eq_true rfl,if_pos rfl,Bool.or_true,decide_eq_false (by omega)]
   exact hR _ rfl hc
  ·rw [decide_eq_false (show ¬(k:Int)=(j:Int) by omega),Bool.or_false]
   simp only [Bool.false_eq_true,if_false,List.append_nil]
   exact ((hr j hj hjk).anyKt 13).1
 ·exact absurd (hh.symm.trans h1) (by decide)
 ·exact absurd (hbu.symm.trans h1) (by decide)
 ·exact absurd (hbu.symm.trans h1) (by decide)
theorem LI.deed (h:LI co cur X e st l U N D) (h8:co≤8) (hh:e.he=true) (hb:e.bu=0) {k:Nat} (hk:k<co) {m:Ms} (hm:Qef m.kd=true) (hli:Qc4 m.li=true) {V:List Ms} (hU:m.kd≤3→U k=m::V):
 ∃(o:Mk) (a:Ms),(Yy e k m).2=Xt o a∧Qel m.li a∧(∀j:Nat,j<8→hasM o j=true→j<co)∧
  LI co cur X (Yy e k m).1 st l (fun j=>if m.kd≤3∧j=k then V else U j) N (fun j=>D j++if hasM o j=true then [a] else []):=by
 obtain ⟨g1,g2,g3,hr⟩:=h.free hh hb
 have hkC:isC (k:Int)=true:=Qb0 (by omega)
 have fit:=ask_fit h.good hh hb hkC hm
 have hkk:m.kd=1∨m.kd=2∨m.kd=3∨m.kd=4∨m.kd=5:=by simp [Qef] at hm;omega
 have hown:∀j:Nat,e.ow=(j:Int)→j<co:=fun j hj=>by have:=h.lo.1;omega
 have hoB:∀j:Nat,hasM (bitM (k:Int)) (j:Int)=true→j<co:=fun j hj=>by rw [XX _ hkC,decide_eq_true_eq] at hj;omega
 rcases hkk with kd|kd|kd|kd|kd
 ·rw [show Yy e k m=Qer e k m by simp [Yy,kd]] at fit ⊢
  have hUk:=hU (by omega)
  have hrk:=hr k hk
  rw [hUk] at hrk
  obtain ⟨n1,n2,r1,r2,r3⟩:=hrk.getS kd
  have n1':e.ow≠(k:Int):=by simpa using n1
  unfold Qer at fit ⊢
  by_cases hc:e.ow≠ -1∧e.ow≠k
  ·rw [if_pos hc] at fit ⊢
   have hoC:isC e.ow=true:=by
    rcases g1 with h1|h1
    ·exact absurd h1 hc.1
    ·exact h1.1
   refine ⟨_,_,rfl,Qem hli 13 (by omega),fun j _ h1=>?_,?_⟩
   ·rw [XX _ hoC,decide_eq_true_eq] at h1;exact hown j h1
   ·refine h.waits h8 hh hb hk (kt:=13) (by rw [kd];rfl) (.inl kd) fit.2.1 Qhj ?_ ?_ ?_ ?_ (fun _ _=>has_self hoC) (fun h1=>by omega)
    ·intro _ j _ h1;rw [XX _ hoC,decide_eq_true_eq] at h1;exact h1
    ·intro j hj;simp [hj]
    ·intro h1;omega
    ·intro _
     refine ⟨by rw [XX _ hoC];simpa using hc.2,?_⟩
     simp only [and_true,if_pos (show m.kd≤3 by omega)]
     rw [n1,n2,kd]
     exact r1 _ _
  ·rw [if_neg hc] at fit ⊢
   have hone:e.ow= -1:=by
    by_cases h1:e.ow= -1
    ·exact h1
    ·exact absurd ⟨h1,n1'⟩ hc
   by_cases hs:e.sh=0#8
   ·rw [if_pos hs] at fit ⊢
    refine ⟨_,_,rfl,Qhr hli 9 (by omega) _ _,fun j _ h1=>hoB j h1,?_⟩
    refine LI.owns h8 hh hb g2 g3 hk fit.2.1 (h.data hh hone) (h.mem1 hh) ?_ (kt0:=ktOf e) ?_ ?_
    ·intro j _ _;exact ⟨by rw [hs,ZM],by omega⟩
    ·intro j hj hjk
     rw [if_neg (by simp [hjk])]
     exact hr j hj
    ·intro a h1 h2
     simp only [and_true,if_pos (show m.kd≤3 by omega)]
     exact r3 _ a h1 h2 (h.data hh hone)
   ·rw [if_neg hs] at fit ⊢
    refine ⟨_,_,rfl,Qhr hli 8 (by omega) _ _,fun j _ h1=>hoB j h1,?_⟩
    refine LI.shares h8 hh hb g2 g3 hk fit.2.1 (h.data hh hone) h.lo.2.2.1 (h.mem1 hh) hone (kt0:=ktOf e) ?_ ?_
    ·intro j hj hjk
     rw [if_neg (by simp [hjk])]
     exact hr j hj
    ·intro a h1 h2
     simp only [and_true,if_pos (show m.kd≤3 by omega)]
     exact r2 _ a h1 h2
 ·rw [show Yy e k m=Qgb e k m by simp [Yy,kd]] at fit ⊢
  have hUk:=hU (by omega)
  have hrk:=hr k hk
  rw [hUk] at hrk
  obtain ⟨n1,r1,r3⟩:=hrk.getM kd
  have n1':e.ow≠(k:Int):=by simpa using n1
  have hoth:∀j:Nat,j<8→(hasM (Y7 e&&& ~~~(bitM (k:Int))) (j:Int)=true↔(hasM e.sh j=true∨e.ow=(j:Int))∧j≠k):=by
   intro j hj
   rw [Jg,Bool.and_eq_true,JV e hj,Bool.not_eq_true',XX _ hkC,decide_eq_false_iff_not]
   exact and_congr_right fun _=>not_congr (by omega)
  unfold Qgb at fit ⊢
  by_cases hc:(Y7 e&&& ~~~(bitM (k:Int)))=0#8
  ·rw [if_pos hc] at fit ⊢
   have hnone:∀j:Nat,j<8→j≠k→hasM e.sh j=false∧e.ow≠(j:Int):=by
    intro j hj hjk
    have h1:=hoth j hj
    rw [hc,ZM] at h1
    constructor
    ·cases h2:hasM e.sh (j:Int)
     ·rfl
     ·exact absurd (h1.2 ⟨.inl h2,hjk⟩) (by decide)
    ·intro h2;exact absurd (h1.2 ⟨.inr h2,hjk⟩) (by decide)
   have hone:e.ow= -1:=by
    rcases g1 with h1|⟨h1,_⟩
    ·exact h1
    ·obtain ⟨j,hj,hj2⟩:=JU h1
     by_cases hjk:j=k
     ·subst hjk;exact absurd hj2 n1'
     ·exact absurd hj2 (hnone j hj hjk).2
   refine ⟨_,_,rfl,Qhr hli 10 (by omega) _ _,fun j _ h1=>hoB j h1,?_⟩
   refine LI.owns h8 hh hb g2 g3 hk fit.2.1 (h.data hh hone) (h.mem1 hh) (fun j hj hjk=>hnone j (by omega) hjk) (kt0:=ktOf e) ?_ ?_
   ·intro j hj hjk
    rw [if_neg (by simp [hjk])]
    exact hr j hj
   ·intro a h1 h2
    simp only [and_true,if_pos (show m.kd≤3 by omega)]
    exact r3 _ a h1 h2 (h.data hh hone)
  ·rw [if_neg hc] at fit ⊢
   refine ⟨_,_,rfl,Qem hli 12 (by omega),fun j hj h1=>?_,?_⟩
   ·rcases ((hoth j hj).1 h1).1 with h2|h2
    ·exact h.lo.2.2.1 j hj h2
    ·exact hown j h2
   ·refine h.waits h8 hh hb hk (kt:=12) (by rw [kd];rfl) (.inr (.inl kd)) fit.2.1 (fun j hj h1=>((hoth j hj).1 h1).1) (fun h1=>by omega) ?_ ?_ ?_ (fun h1=>by omega) (fun _ j hj h1 h2=>(hoth j hj).2 ⟨h1,by omega⟩)
    ·intro j hj;simp [hj]
    ·intro h1;omega
    ·intro _
     refine ⟨?_,?_⟩
     ·cases h1:hasM (Y7 e&&& ~~~(bitM (k:Int))) (k:Int)
      ·rfl
      ·exact absurd rfl ((hoth k (by omega)).1 h1).2
     ·simp only [and_true,if_pos (show m.kd≤3 by omega)]
      rw [n1,kd]
      exact r1 _ _
 ·rw [show Yy e k m=putE e k m by simp [Yy,kd]] at fit ⊢
  have hUk:=hU (by omega)
  have hrk:=hr k hk
  rw [hUk] at hrk
  obtain ⟨r1,r2⟩:=hrk.put kd
  refine ⟨_,_,rfl,Qem hli 11 (by omega),fun j _ h1=>hoB j h1,?_⟩
  have hw:∀x:En,(Q9 x k).he=x.he∧(Q9 x k).di=x.di∧(Q9 x k).l=x.l∧(Q9 x k).ow=(if x.ow=k then -1 else x.ow)∧(Q9 x k).sh=x.sh&&& ~~~(bitM (k:Int))∧(Q9 x k).bu=x.bu∧(Q9 x k).by_=x.by_∧(Q9 x k).wa=x.wa:=by
   intro x;unfold Q9;split<;>exact ⟨rfl,rfl,rfl,by simp [*,En.setOw,En.setSh],rfl,rfl,rfl,rfl⟩
  have hp:(putE e k m).1=Q9 (if e.ow=k then Zb e m else e) k:=rfl
  obtain ⟨q1,q2,q3,q4,q5,q6,q7,q8⟩:=hw (if e.ow=k then Zb e m else e)
  rw [←hp] at q1 q2 q3 q4 q5 q6 q7 q8
  have hz:(if e.ow=(k:Int) then Zb e m else e).ow=e.ow∧(if e.ow=(k:Int) then Zb e m else e).sh=e.sh∧(if e.ow=(k:Int) then Zb e m else e).bu=0∧(if e.ow=(k:Int) then Zb e m else e).by_=0∧(if e.ow=(k:Int) then Zb e m else e).wa=0#8:=by
   obtain ⟨_,b2,b3,b4,b5,b6⟩:=Qey e m
   split
   ·exact ⟨b2,b3,b4.trans hb,b5.trans g2,b6.trans g3⟩
   ·exact ⟨rfl,rfl,hb,g2,g3⟩
  obtain ⟨z1,z2,z3,z4,z5⟩:=hz
  rw [z1] at q4
  rw [z2] at q5
  rw [z3] at q6
  rw [z4] at q7
  rw [z5] at q8
  have hl:e.ow=(k:Int)→(putE e k m).1.l=cur∧(m.di=true→(putE e k m).1.di=true)∧(m.di=false→(putE e k m).1.l=e.l∧(putE e k m).1.di=e.di):=by
   intro ho
   obtain ⟨s1,s2⟩:=r1 (by simpa using ho)
   rw [q3,q2,if_pos ho]
   unfold Zb
   cases hd:m.di
   ·simp only [Bool.false_eq_true,if_false]
    exact ⟨s2 hd,fun h=>(by cases h),fun _=>⟨trivial,trivial⟩⟩
   ·simp only [if_true]
    exact ⟨s1 hd,fun _=>rfl,fun h=>by cases h⟩
  have hn:e.ow≠(k:Int)→(putE e k m).1.l=e.l∧(putE e k m).1.di=e.di:=by
   intro ho
   rw [q3,q2,if_neg ho];exact ⟨rfl,rfl⟩
  have fit1:=fit.1
  have fit2:=fit.2.1
  clear fit hp
  generalize (putE e k m).1=e' at *
  refine ⟨fit2,⟨?_,by rw [q7];omega,fun j hj h1=>?_,fun j _ h1=>?_⟩,?_,fun _ h1=>?_,fun h1=>?_,fun _ h1=>?_,fun h1=>?_,fun h1=>?_⟩
  ·rw [q4];split
   ·omega
   ·exact h.lo.1
  ·rw [q5,Jg,Bool.and_eq_true] at h1
   exact h.lo.2.2.1 j hj h1.1
  ·rw [q8,ZM] at h1;cases h1
  ·intro j hj
   rw [q5,q8,ZM,bOf_0 q6,Jg,XX _ hkC,show ktOf e'=13 by unfold ktOf;rw [q6];rfl]
   by_cases hjk:j=k
   ·subst hjk
    rw [decide_eq_true rfl,if_pos rfl]
    have e1:decide (e'.ow=(j:Int))=false:=by
     rw [q4];split
     ·exact decide_eq_false (by omega)
     ·rename_i h2;simpa using h2
    rw [e1]
    simp only [and_true,if_pos (show m.kd≤3 by omega),Bool.not_true,Bool.and_false]
    exact r2 _ _ _ _ rfl
   ·rw [decide_eq_false (show ¬(k:Int)=(j:Int) by omega),if_neg (show ¬(m.kd≤3∧j=k) by simp [hjk])]
    simp only [Bool.false_eq_true,if_false,List.append_nil,Bool.not_false,Bool.and_true]
    have h2:=((hr j hj).anyKt 13).1
    by_cases ho:e.ow=(k:Int)
    ·rw [q4,if_pos ho,decide_eq_false (show ¬((-1:Int)=(j:Int)) by omega)]
     rw [decide_eq_false (by omega)] at h2
     exact h2.anyEl _
    ·rw [q4,if_neg ho,(hn ho).1]
     exact h2
  ·by_cases ho:e.ow=(k:Int)
   ·exact (hl ho).1
   ·rw [q4,if_neg ho] at h1
    rw [(hn ho).1];exact h.data hh h1
  ·exact absurd (fit1.symm.trans h1) (by decide)
  ·by_cases ho:e.ow=(k:Int)
   ·cases hd:m.di
    ·rw [((hl ho).2.2 hd).1]
     exact h.mem1 hh (by rw [←((hl ho).2.2 hd).2];exact h1)
    ·exact absurd (((hl ho).2.1 hd).symm.trans h1) (by decide)
   ·rw [(hn ho).1]
    exact h.mem1 hh (by rw [←(hn ho).2];exact h1)
  ·exact absurd (q6.symm.trans h1) (by decide)
  ·exact absurd (q6.symm.trans h1) (by decide)
 ·rw [show Yy e k m=cleanE e k m by simp [Yy,kd]] at fit ⊢
  refine ⟨_,_,rfl,Qem hli 13 (by omega),fun j _ h1=>?_,?_⟩
  ·rw [Qdi,Bool.and_eq_true,decide_eq_true_eq] at h1;exact hown j h1.2
  ·refine h.waits h8 hh hb hk (kt:=13) (by rw [kd];rfl) (by omega) fit.2.1 Qhj ?_ ?_ ?_ ?_ (fun h1=>by omega) (fun h1=>by omega)
   ·intro _ j _ h1;rw [Qdi,Bool.and_eq_true,decide_eq_true_eq] at h1;exact h1.2
   ·intro j hj;simp [hj]
   ·intro _;rw [if_neg (by omega)]
   ·intro h1;omega
 ·rw [show Yy e k m=wipeE e k m by simp [Yy,kd]] at fit ⊢
  refine ⟨_,_,rfl,Qem hli 12 (by omega),fun j hj h1=>?_,?_⟩
  ·rcases (JV e hj).1 h1 with h2|h2
   ·exact h.lo.2.2.1 j hj h2
   ·exact hown j h2
  ·refine h.waits h8 hh hb hk (kt:=12) (by rw [kd];rfl) (by omega) fit.2.1 (fun j hj h1=>(JV e hj).1 h1) (fun h1=>by omega) ?_ ?_ ?_ (fun h1=>by omega) (fun h1=>by omega)
   ·intro j hj;simp [hj]
   ·intro _;rw [if_neg (by omega)]
   ·intro h1;omega
theorem LI.answered (h:LI co cur X e st l U N D) (h8:co≤8) {k:Nat} (hk:k<co) {m:Ms} (hm:Qbg m.kd=true) (hg:mg m=true) {V:List Ms} (hN:N k=m::V):
 ∃(o:Mk) (a:Ms),(ansE e k m).2=0∧(ansE e k m).1.2=Xt o a∧Qel m.li a∧(∀j:Nat,j<8→hasM o j=true→j<co)∧
  LI co cur X (ansE e k m).1.1 st l U (fun j=>if j=k then V else N j) (fun j=>D j++if hasM o j=true then [a] else []):=by
 have hkC:isC (k:Int)=true:=Qb0 (by omega)
 have hli:Qc4 m.li=true:=by simp only [mg,Bool.and_eq_true] at hg;exact hg.1.1.1.2
 have hrk:=h.rel k hk
 rw [hN] at hrk
 obtain ⟨w1,rfl,b1,os,r1,d1,d2,kk⟩:=hrk.answer
 have hh:=Qho h.good w1
 obtain ⟨g1,g2⟩:=(YE hh).1 h.good
 have harg:Qfx e (k:Int) m=true:=by simp [Qfx,h.good,hkC,hg,hm]
 obtain ⟨a1,a2,a3,a4,a5,a6⟩:=Qch e (k:Int) m
 obtain ⟨f1,f2,f3⟩:=Qfw (m:=m) h.good w1
 have fit:=ans_fit (m:=m) h.good w1
 have hl:(QQ e (k:Int) m).l=cur∧((QQ e (k:Int) m).di=false→X=(QQ e (k:Int) m).l)∧(e.ow≠(k:Int)→(QQ e (k:Int) m).l=e.l):=by
  have q:(QQ e (k:Int) m).l=(Zb e m).l∧(QQ e (k:Int) m).di=(Zb e m).di:=by
   have hw:∀x:En,(Q9 x k).l=x.l∧(Q9 x k).di=x.di:=by
    intro x;unfold Q9;split<;>exact ⟨rfl,rfl⟩
   unfold QQ
   dsimp only
   split
   ·exact hw _
   ·exact hw _
  rw [q.1,q.2]
  unfold Zb
  by_cases ho:e.ow=(k:Int)
  ·obtain ⟨s1,s2⟩:=d1 (by simpa using ho)
   cases hd:m.di
   ·simp only [Bool.false_eq_true,if_false]
    exact ⟨s2 hd,fun h1=>h.mem1 hh h1,fun h1=>trivial⟩
   ·simp only [if_true]
    exact ⟨s1 hd,fun h1=>(by cases h1),fun h1=>absurd ho h1⟩
  ·have hd:=d2 (by simpa using ho)
   rw [hd]
   simp only [Bool.false_eq_true,if_false]
   refine ⟨?_,fun h1=>h.mem1 hh h1,fun _=>trivial⟩
   have hs:hasM e.sh (k:Int)=true:=by
    rw [decide_eq_false ho] at os;simpa using os
   refine h.data hh ?_
   rcases g1 with h1|⟨_,h1⟩
   ·exact h1
   ·rw [h1,ZM] at hs;cases hs
 have hlo:Lo co (QQ e (k:Int) m):=by
  refine ⟨by rw [f1];omega,by rw [a5];exact h.lo.2.1,fun j hj h1=>?_,fun j hj h1=>?_⟩
  ·rw [a3] at h1
   split at h1
   ·rw [Qgs,Bool.or_eq_true,XX _ hkC,decide_eq_true_eq,Jg,Bool.and_eq_true] at h1
    rcases h1 with h1|h1
    ·exact h.lo.2.2.1 j hj h1.1
    ·omega
   ·rw [Jg,Bool.and_eq_true] at h1
    exact h.lo.2.2.1 j hj h1.1
  ·rw [a6,Jg,Bool.and_eq_true] at h1
   exact h.lo.2.2.2 j hj h1.1
 have hkt:ktOf (QQ e (k:Int) m)=ktOf e:=by unfold ktOf;rw [a4]
 have hbo:∀j:Nat,bOf (QQ e (k:Int) m) j=bOf e j:=fun j=>by unfold bOf;rw [a4,a5]
 have hrel:∀j:Nat,j<co→Rel cur (QQ e (k:Int) m).l (ktOf (QQ e (k:Int) m)) (decide ((QQ e (k:Int) m).ow=(j:Int))) (hasM (QQ e (k:Int) m).sh j) (hasM (QQ e (k:Int) m).wa j) (bOf (QQ e (k:Int) m) j) (st j) (l j) (U j) ((fun j=>if j=k then [] else N j) j) (D j):=by
  intro j hj
  have e1:decide ((QQ e (k:Int) m).ow=(j:Int))=false:=by rw [f1];exact decide_eq_false (by omega)
  rw [e1,hbo,hkt]
  by_cases hjk:j=k
  ·subst hjk
   have e2:hasM (QQ e (j:Int) m).sh j=m.ke:=by
    rw [a3]
    cases m.ke
    ·simp only [Bool.false_eq_true,if_false]
     rw [Jg,XX _ hkC];simp
    ·simp only [if_true]
     rw [Qgs,XX _ hkC];simp
   have e3:hasM (QQ e (j:Int) m).wa j=false:=by
    rw [a6,Jg,XX _ hkC];simp
   rw [e2,e3,b1]
   simp only [if_true]
   exact r1 _ _
  ·have e2:hasM (QQ e (k:Int) m).sh j=hasM e.sh j:=by
    rw [a3]
    split
    ·rw [Qgs,Jg,XX _ hkC,decide_eq_false (by omega)];simp
    ·rw [Jg,XX _ hkC,decide_eq_false (by omega)];simp
   have e3:hasM (QQ e (k:Int) m).wa j=hasM e.wa j:=by
    rw [a6,Jg,XX _ hkC,decide_eq_false (by omega)];simp
   rw [e2,e3]
   simp only [hjk,if_false]
   have h1:=h.rel j hj
   have e4:decide (e.ow=(j:Int))=false:=by
    rw [a2] at f1
    split at f1
    ·rename_i h2;exact decide_eq_false (by omega)
    ·rw [f1];exact decide_eq_false (by omega)
   rw [e4] at h1
   exact h1.anyEl _
 have hke:e.bu=2→m.ke=false:=fun hb=>kk (by unfold ktOf;rw [if_pos (.inl hb)])
 have hw2:e.bu=2→∀j:Nat,j<8→(hasM (QQ e (k:Int) m).sh j=true∨(QQ e (k:Int) m).ow=(j:Int))→(j:Int)≠e.by_→hasM (QQ e (k:Int) m).wa j=true:=by
  intro hb j hj h1 h2
  rcases h1 with h1|h1
  ·rw [a3,hke hb] at h1
   simp only [Bool.false_eq_true,if_false] at h1
   rw [Jg,Bool.and_eq_true] at h1
   rw [a6,Jg,h.wait2 hb j hj (.inl h1.1) h2,h1.2];rfl
  ·rw [f1] at h1;omega
 unfold ansE
 rw [if_pos harg,if_pos w1]
 generalize QQ e (k:Int) m=A at *
 have hhA:A.he=true:=a1.trans hh
 by_cases hw:A.wa≠0#8
 ·rw [if_pos hw] at fit ⊢
  refine ⟨0#8,ms4 11 m.li false false,rfl,rfl,Qem hli 11 (by omega),fun j _ h1=>(by rw [ZM] at h1;cases h1),?_⟩
  refine ⟨fit.2.1,hlo,fun j hj=>?_,fun _ _=>hl.1,fun h1=>?_,fun _=>hl.2.1,fun _ h1=>absurd f1 h1,fun hb=>?_⟩
  ·rw [ZM]
   simp only [Bool.false_eq_true,if_false,List.append_nil]
   exact hrel j hj
  ·exact absurd (hhA.symm.trans h1) (by decide)
  ·rw [a5];exact hw2 (a4.symm.trans hb)
 ·have hw0:A.wa=0#8:=by simpa using hw
  rw [if_neg hw] at fit ⊢
  obtain ⟨p,hp,hby2⟩:=JU f2.1
  have hpc:p<co:=by have:=hlo.2.1;omega
  have hoth:∀j:Nat,j<co→j≠p→Rel cur A.l (ktOf A) (decide (A.ow=(j:Int))) (hasM A.sh j) false 0 (st j) (l j) (U j) ((fun j=>if j=k then [] else N j) j) (D j):=by
   intro j hj hjp
   have h1:=hrel j hj
   rw [hw0,ZM,bOf_ne (by omega)] at h1
   exact h1
  have hoB:∀j:Nat,hasM (bitM (p:Int)) (j:Int)=true→j<co:=fun j hj=>by rw [XX _ (Qb0 hp),decide_eq_true_eq] at hj;omega
  have hrp:=hrel p hpc
  unfold Yt at fit ⊢
  by_cases hb1:A.bu=1
  ·rw [if_pos hb1] at fit ⊢
   rw [hby2] at fit ⊢
   rw [show bOf A p=1 by unfold bOf;rw [if_pos hby2,hb1];rfl] at hrp
   obtain ⟨_,_,_,r2⟩:=hrp.settleS
   refine ⟨_,_,rfl,rfl,Qhr hli 8 (by omega) _ _,fun j _ h1=>hoB j h1,?_⟩
   exact LI.shares (e:=Jf A) h8 hhA rfl rfl rfl hpc fit.2.1 hl.1 hlo.2.2.1 hl.2.1 f1 (kt0:=ktOf A) hoth (fun a h1 h2=>r2 _ a h1 h2 _)
  ·rw [if_neg hb1] at fit ⊢
   by_cases hb2:A.bu=2
   ·rw [if_pos hb2] at fit ⊢
    rw [hby2] at fit ⊢
    rw [show bOf A p=2 by unfold bOf;rw [if_pos hby2,hb2];rfl] at hrp
    obtain ⟨_,_,r2⟩:=hrp.settleM
    refine ⟨_,_,rfl,rfl,Qhr hli 10 (by omega) _ _,fun j _ h1=>hoB j h1,?_⟩
    refine LI.owns (e:=Jf A) h8 hhA rfl rfl rfl hpc fit.2.1 hl.1 hl.2.1 ?_ (kt0:=ktOf A) hoth (fun a h1 h2=>r2 _ a h1 h2 _ hl.1)
    intro j hj hjp
    have h1:=hw2 (a4.symm.trans hb2) j (by omega)
    rw [hw0,ZM] at h1
    constructor
    ·cases h2:hasM (Jf A).sh (j:Int)
     ·rfl
     ·exact absurd (h1 (.inl h2) (by rw [←a5];omega)) (by decide)
    ·show A.ow≠(j:Int)
     rw [f1];omega
   ·rw [if_neg hb2] at fit ⊢
    refine ⟨0#8,ms4 11 m.li false false,rfl,rfl,Qem hli 11 (by omega),fun j _ h1=>(by rw [ZM] at h1;cases h1),?_⟩
    refine ⟨fit.2.1,hlo,fun j hj=>?_,fun _ _=>hl.1,fun h1=>?_,fun _=>hl.2.1,fun _ h1=>absurd f1 h1,fun hb=>absurd hb hb2⟩
    ·rw [ZM]
     simp only [Bool.false_eq_true,if_false,List.append_nil]
     exact hrel j hj
    ·exact absurd (hhA.symm.trans h1) (by decide)
end
end
section
structure Mst where
 ps:List Pt
 en:List En
 es:List Ent
 xs:List Int
def Mst.X (S:Mst):List Int:=over S.xs S.es
def upL (x:Pt) (i:Nat):List Ms:=x.up.filter (fun m=>m.li==(i:Int)&&decide (m.kd≤3))
def anL (x:Pt) (i:Nat):List Ms:=x.an.filter (fun m=>m.li==(i:Int))
def dnL (x:Pt) (i:Nat):List Ms:=x.dn.filter (fun m=>m.li==(i:Int)&&m.kd !=14)
def vst (x:Pt) (i:Nat):Nat:=(vw x.s i).1.toNat
def vln (x:Pt) (i:Nat):List Int:=(vw x.s i).2
def ptN:Pt:=⟨([],0),[],[],[]⟩
def atP (ps:List Pt) (j:Nat):Pt:=ps.getD j ptN
theorem Jv {ps:List Pt} {k:Nat} {x:Pt} (h:ps[k]? =some x):atP ps k=x:=by simp [atP,List.getD,h]
theorem atP_mem {ps:List Pt} {k:Nat} (h:k<ps.length):ps[k]? =some (atP ps k):=by
 rw [atP,List.getD_eq_getElem?_getD,List.getElem?_eq_getElem h];rfl
theorem Yz {ps:List Pt} {k:Nat} (h:k<ps.length) (x:Pt) (j:Nat):atP (ps.set k x) j=if j=k then x else atP ps j:=by
 unfold atP
 rw [List.getD_eq_getElem?_getD,List.getD_eq_getElem?_getD,List.getElem?_set]
 by_cases hj:k=j
 ·subst hj;simp [h]
 ·rw [if_neg hj,if_neg (fun e=>hj e.symm)]
def LinI (co:Nat) (ps:List Pt) (cur X:List Int) (i:Nat) (e:En):Prop:=
 LI co cur X e (fun j=>vst (atP ps j) i) (fun j=>vln (atP ps j) i) (fun j=>upL (atP ps j) i) (fun j=>anL (atP ps j) i) (fun j=>dnL (atP ps j) i)
theorem LI.with {co:Nat} {cur X:List Int} {e:En} {st st':Nat→Nat} {l l':Nat→List Int} {U N D U' N' D':Nat→List Ms} (h:LI co cur X e st l U N D)
 (hr:∀j:Nat,j<co→Rel cur e.l (ktOf e) (decide (e.ow=(j:Int))) (hasM e.sh j) (hasM e.wa j) (bOf e j) (st' j) (l' j) (U' j) (N' j) (D' j)):LI co cur X e st' l' U' N' D':=
 ⟨h.good,h.lo,hr,h.data,h.mem0,h.mem1,h.wait1,h.wait2⟩
theorem LinI.same {co:Nat} {ps ps':List Pt} {cur X:List Int} {i:Nat} {e:En} (h:LinI co ps cur X i e) (hs:∀j,j<co→vst (atP ps' j) i=vst (atP ps j) i∧vln (atP ps' j) i=vln (atP ps j) i∧upL (atP ps' j) i=upL (atP ps j) i∧anL (atP ps' j) i=anL (atP ps j) i∧dnL (atP ps' j) i=dnL (atP ps j) i):LinI co ps' cur X i e:=by
 refine h.with fun j hj=>?_
 obtain ⟨h1,h2,h3,h4,h5⟩:=hs j hj
 rw [h1,h2,h3,h4,h5]
 exact h.rel j hj
theorem AOk.msg {li:Int} {st st':Int} {l l':List Int} {ms:List Ms} (h:AOk li st l st' l' ms) (hl:Qc4 li=true):∃m,ms=[m]∧m.li=li∧m.kd≤3∧Qef m.kd=true∧mg m=true:=by
 cases h with
 |askS=>exact ⟨_,rfl,rfl,by simp [ms4],rfl,by simp [mg,ms4,Qc5,hl]⟩
 |askM=>exact ⟨_,rfl,rfl,by simp [ms4],rfl,by simp [mg,ms4,Qc5,hl]⟩
 |up=>exact ⟨_,rfl,rfl,by simp [ms4],rfl,by simp [mg,ms4,Qc5,hl]⟩
 |outS=>exact ⟨_,rfl,rfl,by simp [ms4],rfl,by simp [mg,ms4,Qc5,hl]⟩
 |outE=>exact ⟨_,rfl,rfl,by simp [ms4],rfl,by simp [mg,ms4,Qc5,hl]⟩
 |outM l m hk hli hd hke hm=>exact ⟨_,rfl,hli,by omega,by rw [hk];rfl,by simp [mg,hk,hli,hd,hke,Qc5,mayD,hl]⟩
section
variable {co:Nat} {ps:List Pt} {cur X:List Int} {i:Nat} {e:En}
theorem LinI.ag (h:LinI co ps cur X i e) {n k:Nat} {x:Pt} (hn:n≤64) (hx:ps[k]? =some x) {s':Sta} {ms:List Ms} (ha:Asks n x.s s' ms):LinI co (ps.set k {x with s:=s',up:=x.up++ms}) cur X i e:=by
 have hk:=(Vg hx).1
 refine h.with fun j hj=>?_
 have hr:=h.rel j hj
 simp only [Yz hk]
 by_cases hjk:j=k
 ·subst hjk
  simp only [Jv hx] at hr
  simp only [if_true]
  rcases ha with ⟨rfl,hv⟩|⟨li,h0,hn',ha,ho⟩
  ·have e1:vst {x with s:=s',up:=x.up++[]} i=vst x i:=by unfold vst;rw [hv]
   have e2:vln {x with s:=s',up:=x.up++[]} i=vln x i:=by unfold vln;rw [hv]
   have e3:upL {x with s:=s',up:=x.up++[]} i=upL x i:=by unfold upL;rw [List.append_nil]
   rw [e1,e2,e3];exact hr
  ·obtain ⟨m,hm,hml,hmk,_⟩:=ha.msg (by unfold Qc4;simp;omega)
   have e3:upL {x with s:=s',up:=x.up++ms} i=upL x i++ms.filter (fun m=>m.li==(i:Int)&&decide (m.kd≤3)):=by unfold upL;rw [List.filter_append]
   rw [e3]
   by_cases hi:li=(i:Int)
   ·subst hi
    have h2:=hr.ask ha.nat
    have e4:ms.filter (fun m=>m.li==(i:Int)&&decide (m.kd≤3))=ms:=by rw [hm];simp [hml,hmk]
    rw [e4]
    exact h2
   ·have e4:ms.filter (fun m=>m.li==(i:Int)&&decide (m.kd≤3))=[]:=by rw [hm];simp [hml,hi]
    have hv:=ho (i:Int) (fun e=>hi e.symm)
    have e1:vst {x with s:=s',up:=x.up++ms} i=vst x i:=by unfold vst;rw [hv]
    have e2:vln {x with s:=s',up:=x.up++ms} i=vln x i:=by unfold vln;rw [hv]
    rw [e4,List.append_nil,e1,e2];exact hr
 ·simp only [hjk,if_false];exact hr
theorem LI.ow_ne {co:Nat} {cur X:List Int} {e:En} {st:Nat→Nat} {l:Nat→List Int} {U N D:Nat→List Ms} (h:LI co cur X e st l U N D) {k:Nat} (hk:e.ow=(k:Int)):e.he=true∧e.sh=0#8∧∀j:Nat,j≠k→e.ow≠(j:Int):=by
 have hh:e.he=true:=by
  cases hh:e.he
  ·have he:e=enE:=by
    have:=h.good
    unfold JG at this
    rw [if_neg (by simp [hh])] at this
    simpa using this
   rw [he] at hk
   have:(-1:Int)=(k:Int):=hk
   omega
  ·rfl
 obtain ⟨g1,_⟩:=(YE hh).1 h.good
 refine ⟨hh,?_,fun j hj=>by omega⟩
 rcases g1 with h1|h1
 ·omega
 ·exact h1.2
theorem LinI.write (h:LinI co ps cur X i e) {k:Nat} {x:Pt} (hkc:k<co) (hx:ps[k]? =some x) {s':Sta} (cur':List Int) (hs:(vw x.s i).1=2∨(vw x.s i).1=3) (hv:vw s' i=(3,cur')):LinI co (ps.set k {x with s:=s'}) cur' X i e∧vln x i=cur:=by
 have hk:=(Vg hx).1
 have hrk:=h.rel k hkc
 simp only [Jv hx] at hrk
 have hst:vst x i=2∨vst x i=3:=by unfold vst;omega
 obtain ⟨r1,r2,r3⟩:=hrk.write hst cur'
 have how:e.ow=(k:Int):=by simpa using r3
 obtain ⟨hh,hsh,hne⟩:=h.ow_ne how
 refine ⟨⟨h.good,h.lo,fun j hj=>?_,fun _ h1=>by omega,fun h1=>absurd (hh.symm.trans h1) (by decide),h.mem1,h.wait1,h.wait2⟩,r2⟩
 have hr:=h.rel j hj
 simp only [Yz hk]
 by_cases hjk:j=k
 ·subst hjk
  simp only [if_true]
  have e1:vst {x with s:=s'} i=3:=by unfold vst;rw [hv];rfl
  have e2:vln {x with s:=s'} i=cur':=by unfold vln;rw [hv]
  rw [e1,e2]
  exact r1
 ·simp only [hjk,if_false]
  rw [decide_eq_false (hne j hjk),hsh,ZM] at hr ⊢
  obtain ⟨h1,h2,h3⟩:=hr.none cur' e.l (ktOf e)
  rw [h1,h2];exact h3
theorem LinI.writeOff (h:LinI co ps cur X i e) {k:Nat} {x:Pt} (hx:ps[k]? =some x) {s':Sta} (hv:vw s' i=vw x.s i):LinI co (ps.set k {x with s:=s'}) cur X i e:=by
 have hk:=(Vg hx).1
 refine h.same fun j hj=>?_
 simp only [Yz hk]
 by_cases hjk:j=k
 ·subst hjk
  simp only [if_true,Jv hx]
  exact ⟨by unfold vst;rw [hv],by unfold vln;rw [hv],rfl,rfl,rfl⟩
 ·simp only [hjk,if_false,and_self]
theorem hv_ex (m:Ms) (x:Slt):∃st' l',HV m x st' l':=by
 refine ⟨if tb m.kd x.st=10 then 0 else if tb m.kd x.st=11 then x.st else tb m.kd x.st,if tb m.kd x.st=11 then x.l else Y0 m x (tb m.kd x.st),fun h=>by rw [if_pos h],fun h=>?_,fun h1 h2=>?_⟩
 ·rw [if_neg (by omega),if_pos h,if_pos h];exact ⟨rfl,rfl⟩
 ·rw [if_neg h1,if_neg h2,if_neg h2];exact ⟨rfl,rfl⟩
theorem dnL_cons {x:Pt} {m:Ms} {rest:List Ms} (hd:x.dn=m::rest) (i:Nat) (hm:m.li=(i:Int)) (h14:m.kd≠14):dnL x i=m::dnL {x with dn:=rest} i:=by
 unfold dnL
 rw [hd,List.filter_cons,if_pos (by simp [hm,h14])]
theorem dnL_skip {x:Pt} {m:Ms} {rest:List Ms} (hd:x.dn=m::rest) (i:Nat) (hm:m.li≠(i:Int)∨m.kd=14):dnL x i=dnL {x with dn:=rest} i:=by
 unfold dnL
 rw [hd,List.filter_cons,if_neg (by rcases hm with h|h<;>simp [h])]
theorem LinI.fits (h:LinI co ps cur X i e) {S N n k:Nat} {x:Pt} (hkc:k<co) (hx:ps[k]? =some x) (aj:AJ S N n x.s) {m:Ms} {rest:List Ms} (hd:x.dn=m::rest) (hm:m.li=(i:Int)):tb m.kd (vw x.s m.li).1≠0:=by
 by_cases h14:m.kd=14
 ·rw [h14];show (11:Int)≠0;decide
 ·have hr:=h.rel k hkc
  simp only [Jv hx,dnL_cons hd i hm h14] at hr
  obtain ⟨st',l',hv⟩:=hv_ex m (Qx x.s.1 m.li)
  have h0:=(aj.sane1 m.li).1
  have hr':Rel cur e.l (ktOf e) (decide (e.ow=(k:Int))) (hasM e.sh k) (hasM e.wa k) (bOf e k) (Qx x.s.1 m.li).st.toNat (Qx x.s.1 m.li).l (upL x i) (anL x i) (m::dnL {x with dn:=rest} i):=by
   have e1:vst x i=(Qx x.s.1 m.li).st.toNat:=by unfold vst vw;rw [hm]
   have e2:vln x i=(Qx x.s.1 m.li).l:=by unfold vln vw;rw [hm]
   rw [←e1,←e2];exact hr
  exact (hr'.hear h0 (ktOf_or e) hv).1
theorem LinI.hear (h:LinI co ps cur X i e) {S N n k:Nat} {x:Pt} (hx:ps[k]? =some x) (aj:AJ S N n x.s) {m:Ms} {rest:List Ms} (hd:x.dn=m::rest) (hg:(mg m&&Y1 m.kd)=true) (hn:m.li<n) (ht:tb m.kd (vw x.s m.li).1≠0):
 LinI co (ps.set k {x with s:=(hearF S N x.s m).1,an:=x.an++Z0 m.kd (Qx x.s.1 m.li) (tb m.kd (vw x.s m.li).1),dn:=rest}) cur X i e:=by
 have hk:=(Vg hx).1
 obtain ⟨_,_,ho,v10,v11,vno⟩:=aj.hearF hg hn ht
 refine h.with fun j hj=>?_
 have hr:=h.rel j hj
 simp only [Yz hk]
 by_cases hjk:j=k
 ·subst hjk
  simp only [Jv hx] at hr
  simp only [if_true]
  generalize hs':(hearF S N x.s m).1=s' at *
  have hal:m.kd≠14→∀a∈Z0 m.kd (Qx x.s.1 m.li) (tb m.kd (vw x.s m.li).1),a.li=m.li:=by
   intro h14 a ha
   have hl:=(aj.line (tb_line ht h14)).2.2.1
   have htl:∀kd ke,(JL kd (Qx x.s.1 m.li) ke).li=m.li:=by
    intro kd ke;unfold JL;split
    ·exact hl
    ·exact hl
   unfold Z0 at ha
   split at ha
   ·rw [List.mem_singleton] at ha;rw [ha,htl]
   ·split at ha
    ·rw [List.mem_singleton] at ha;rw [ha,htl]
    ·cases ha
  have ean:∀av:List Ms,anL {x with s:=s',an:=x.an++av,dn:=rest} i=anL x i++av.filter (fun m=>m.li==(i:Int)):=by intro av;unfold anL;rw [List.filter_append]
  have eup:∀av:List Ms,upL {x with s:=s',an:=x.an++av,dn:=rest} i=upL x i:=fun _=>rfl
  have edn:∀av:List Ms,dnL {x with s:=s',an:=x.an++av,dn:=rest} i=dnL {x with dn:=rest} i:=fun _=>rfl
  have evs:∀av:List Ms,vst {x with s:=s',an:=x.an++av,dn:=rest} i=(vw s' i).1.toNat:=fun _=>rfl
  have evl:∀av:List Ms,vln {x with s:=s',an:=x.an++av,dn:=rest} i=(vw s' i).2:=fun _=>rfl
  rw [ean,eup,edn,evs,evl]
  by_cases h14:m.kd=14
  ·have e1:Z0 m.kd (Qx x.s.1 m.li) (tb m.kd (vw x.s m.li).1)=[]:=by rw [h14];rfl
   have e2:vw s' i=vw x.s i:=by
    by_cases hi:m.li=(i:Int)
    ·rw [←hi];exact v11 (by rw [h14];rfl)
    ·exact ho _ (fun e=>hi e.symm)
   rw [e1,e2,←dnL_skip hd i (.inr h14)]
   simp only [List.filter_nil,List.append_nil]
   exact hr
  ·by_cases hi:m.li=(i:Int)
   ·rw [dnL_cons hd i hi h14] at hr
    have e1:(Z0 m.kd (Qx x.s.1 m.li) (tb m.kd (vw x.s m.li).1)).filter (fun m=>m.li==(i:Int))=Z0 m.kd (Qx x.s.1 m.li) (tb m.kd (vw x.s m.li).1):=by
     rw [List.filter_eq_self]
     intro a ha
     rw [hal h14 a ha];simpa using hi
    rw [e1]
    have e2:vst x i=(Qx x.s.1 m.li).st.toNat:=by unfold vst vw;rw [hi]
    have e3:vln x i=(Qx x.s.1 m.li).l:=by unfold vln vw;rw [hi]
    rw [e2,e3] at hr
    refine (hr.hear (aj.sane1 m.li).1 (ktOf_or e) (st':=(vw s' i).1) (l':=(vw s' i).2) ⟨fun h1=>?_,fun h1=>?_,fun h1 h2=>?_⟩).2
    ·rw [←hi];exact v10 h1
    ·rw [←hi,v11 h1];exact ⟨rfl,rfl⟩
    ·rw [←hi,vno h1 h2];exact ⟨rfl,rfl⟩
   ·have e1:(Z0 m.kd (Qx x.s.1 m.li) (tb m.kd (vw x.s m.li).1)).filter (fun m=>m.li==(i:Int))=[]:=by
     rw [List.filter_eq_nil_iff]
     intro a ha
     rw [hal h14 a ha];simpa using hi
    rw [e1,ho _ (fun e=>hi e.symm),←dnL_skip hd i (.inl hi),List.append_nil]
    exact hr
 ·simp only [hjk,if_false];exact hr
theorem sendP_at (a:Ms):∀(cs:List Int) (ps:List Pt),cs.Nodup→(∀c∈cs,0≤c∧c<ps.length)→(Y9 ps (cs.map fun c=>(⟨c,a⟩:Sd))).length=ps.length∧∀j:Nat,j<ps.length→atP (Y9 ps (cs.map fun c=>(⟨c,a⟩:Sd))) j=if (j:Int)∈cs then {atP ps j with dn:=(atP ps j).dn++[a]} else atP ps j
 |[],ps,_,_=>⟨rfl,fun j _=>by simp [Y9]⟩
 |c::cs,ps,hn,hc=>by
  obtain ⟨hc1,hc2⟩:=hc c (by simp)
  obtain ⟨p,rfl⟩:∃p:Nat,c=(p:Int):=⟨c.toNat,by omega⟩
  have hp:p<ps.length:=by omega
  have e1:Y9 ps (((p:Int)::cs).map fun c=>(⟨c,a⟩:Sd))=Y9 (ps.set p {atP ps p with dn:=(atP ps p).dn++[a]}) (cs.map fun c=>(⟨c,a⟩:Sd)):=by
   unfold Y9
   rw [List.map_cons,List.foldl_cons]
   congr 1
   unfold Qhz
   show (match ps[(p:Int).toNat]? with|some x=>_|none=>_)=_
   rw [Int.toNat_natCast,atP_mem hp]
  rw [List.nodup_cons] at hn
  obtain ⟨h1,h2⟩:=sendP_at a cs (ps.set p {atP ps p with dn:=(atP ps p).dn++[a]}) hn.2 (fun c hc'=>by rw [List.length_set];exact hc c (by simp [hc']))
  rw [e1]
  refine ⟨by rw [h1,List.length_set],fun j hj=>?_⟩
  rw [h2 j (by rw [List.length_set];exact hj),Yz hp]
  by_cases hjp:j=p
  ·subst hjp
   rw [if_neg hn.1,if_pos rfl,if_pos (by simp)]
  ·simp only [hjp,if_false]
   by_cases hm:(j:Int)∈cs
   ·rw [if_pos hm,if_pos (by simp [hm])]
   ·rw [if_neg hm,if_neg (by simp [hm];omega)]
theorem coresL_nodup (o:Mk):(Qa4 o).Nodup:=by
 unfold Qa4 Qap
 exact List.Nodup.sublist List.filter_sublist (by decide)
theorem has_isC {o:Mk} {c:Int} (h:hasM o c=true):isC c=true:=by
 cases hc:isC c
 ·rw [Qf9 hc] at h;cases h
 ·rfl
theorem Qd0 (o:Mk) (a:Ms) (ps:List Pt) (h:∀j:Nat,j<8→hasM o j=true→j<ps.length):(Y9 ps (Xt o a)).length=ps.length∧∀j:Nat,j<ps.length→atP (Y9 ps (Xt o a)) j=if hasM o j=true then {atP ps j with dn:=(atP ps j).dn++[a]} else atP ps j:=by
 have:=sendP_at a (Qa4 o) ps (coresL_nodup o) (fun c hc=>by
  have h1:=(Qe7 o c).1 hc
  obtain ⟨j,hj,rfl⟩:=JU (has_isC h1)
  have:=h j hj h1
  omega)
 refine ⟨this.1,fun j hj=>?_⟩
 rw [show Xt o a=(Qa4 o).map fun c=>(⟨c,a⟩:Sd) from rfl,this.2 j hj]
 by_cases hm:hasM o (j:Int)=true
 ·rw [if_pos hm,if_pos ((Qe7 o j).2 hm)]
 ·rw [if_neg hm,if_neg (fun h=>hm ((Qe7 o j).1 h))]
theorem LinI.sent (h:LinI co ps cur X i e) (hl:ps.length=co) {o:Mk} {a:Ms} (ho:∀j:Nat,j<8→hasM o j=true→j<co) (ha:a.li≠(i:Int)∨a.kd=14):LinI co (Y9 ps (Xt o a)) cur X i e:=by
 obtain ⟨_,h2⟩:=Qd0 o a ps (by rw [hl];exact ho)
 refine h.same fun j hj=>?_
 rw [h2 j (by omega)]
 split
 ·refine ⟨rfl,rfl,rfl,rfl,?_⟩
  unfold dnL
  rw [List.filter_append]
  have:[a].filter (fun m=>m.li==(i:Int)&&m.kd !=14)=[]:=by rcases ha with ha|ha<;>simp [ha]
  rw [this,List.append_nil]
 ·exact ⟨rfl,rfl,rfl,rfl,rfl⟩
theorem LinI.sends {st:Nat→Nat} {l:Nat→List Int} {U N:Nat→List Ms} {D:Nat→List Ms} {e':En} {o:Mk} {a:Ms} (h:LI co cur X e' st l U N (fun j=>D j++if hasM o j=true then [a] else [])) (hl:ps.length=co) (ho:∀j:Nat,j<8→hasM o j=true→j<co) (ha:a.li=(i:Int)) (h14:a.kd≠14)
 (hs:∀j,j<co→vst (atP ps j) i=st j∧vln (atP ps j) i=l j∧upL (atP ps j) i=U j∧anL (atP ps j) i=N j∧dnL (atP ps j) i=D j):LinI co (Y9 ps (Xt o a)) cur X i e':=by
 obtain ⟨_,h2⟩:=Qd0 o a ps (by rw [hl];exact ho)
 refine h.with fun j hj=>?_
 have hr:=h.rel j hj
 obtain ⟨h3,h4,h5,h6,h7⟩:=hs j hj
 simp only [h2 j (show j<ps.length by omega)]
 rw [←h3,←h4,←h5,←h6,←h7] at hr
 by_cases hm:hasM o (j:Int)=true
 ·rw [if_pos hm]
  have e1:dnL {atP ps j with dn:=(atP ps j).dn++[a]} i=dnL (atP ps j) i++if hasM o (j:Int)=true then [a] else []:=by
   unfold dnL
   rw [List.filter_append,if_pos hm]
   congr 1
   simp [ha,h14]
  rw [e1];exact hr
 ·rw [if_neg hm]
  rw [if_neg hm,List.append_nil] at hr
  exact hr
theorem upL_cons {x:Pt} {m:Ms} {rest:List Ms} (hd:x.up=m::rest) (i:Nat) (hm:m.li=(i:Int)) (h3:m.kd≤3):upL x i=m::upL {x with up:=rest} i:=by
 unfold upL
 rw [hd,List.filter_cons,if_pos (by simp [hm,h3])]
theorem upL_skip {x:Pt} {m:Ms} {rest:List Ms} (hd:x.up=m::rest) (i:Nat) (hm:m.li≠(i:Int)∨¬m.kd≤3):upL x i=upL {x with up:=rest} i:=by
 unfold upL
 rw [hd,List.filter_cons,if_neg (by rcases hm with h|h<;>simp [h])]
theorem anL_cons {x:Pt} {m:Ms} {rest:List Ms} (hd:x.an=m::rest) (i:Nat) (hm:m.li=(i:Int)):anL x i=m::anL {x with an:=rest} i:=by
 unfold anL
 rw [hd,List.filter_cons,if_pos (by simp [hm])]
theorem anL_skip {x:Pt} {m:Ms} {rest:List Ms} (hd:x.an=m::rest) (i:Nat) (hm:m.li≠(i:Int)):anL x i=anL {x with an:=rest} i:=by
 unfold anL
 rw [hd,List.filter_cons,if_neg (by simp [hm])]
theorem LinI.up (h:LinI co ps cur X i e) (h8:co≤8) (hl:ps.length=co) (hX:X.length=8) (hb:e.bu=0) {k:Nat} {x:Pt} (hx:ps[k]? =some x) {m:Ms} {rest:List Ms} (hu:x.up=m::rest) (hm:Qef m.kd=true) (hg:mg m=true) (hi:m.li=(i:Int)):
 ∃(o:Mk) (a:Ms) (e':En),askE (Qce e X hX) k m=((e',Xt o a),0)∧Qel m.li a∧(∀j:Nat,j<8→hasM o j=true→j<co)∧LinI co (Y9 (ps.set k {x with up:=rest}) (Xt o a)) cur X i e':=by
 have hk:=(Vg hx).1
 obtain ⟨h1,hh,hbb⟩:=LI.here h hX
 have hb':(Qce e X hX).bu=0:=hbb.trans hb
 have hli:Qc4 m.li=true:=by simp only [mg,Bool.and_eq_true] at hg;exact hg.1.1.1.2
 obtain ⟨o,a,d1,d2,d3,d4⟩:=LI.deed h1 h8 hh hb' (k:=k) (by omega) hm hli (V:=upL {x with up:=rest} i) (fun h3=>by simp only [Jv hx];exact upL_cons hu i hi h3)
 have harg:Qdt (Qce e X hX) k m=true:=by simp [Qdt,h1.good,Qb0 (show k<8 by omega),hg,hm]
 refine ⟨o,a,(Yy (Qce e X hX) k m).1,?_,d2,d3,?_⟩
 ·unfold askE
  rw [if_pos harg,if_neg (by rw [hb'];decide),if_neg (by rw [hh];decide),←d1]
 ·refine LinI.sends d4 (by rw [List.length_set];exact hl) d3 (by rw [d2.2.2.1,hi]) d2.2.2.2 fun j hj=>?_
  simp only [Yz hk]
  by_cases hjk:j=k
  ·subst hjk
   simp only [if_true,Jv hx,and_true]
   refine ⟨rfl,rfl,?_,rfl,rfl⟩
   by_cases h3:m.kd≤3
   ·simp only [h3,if_true]
   ·simp only [h3,if_false];exact (upL_skip hu i (.inr h3)).symm
  ·simp only [hjk,if_false,and_false,and_self]
theorem LinI.upOff (h:LinI co ps cur X i e) (hl:ps.length=co) {k:Nat} {x:Pt} (hx:ps[k]? =some x) {m:Ms} {rest:List Ms} (hu:x.up=m::rest) (hi:m.li≠(i:Int)) {o:Mk} {a:Ms} (ho:∀j:Nat,j<8→hasM o j=true→j<co) (ha:Qel m.li a):LinI co (Y9 (ps.set k {x with up:=rest}) (Xt o a)) cur X i e:=by
 have hk:=(Vg hx).1
 refine LinI.sent (h.same fun j hj=>?_) (by rw [List.length_set];exact hl) ho (.inl (by rw [ha.2.2.1];exact hi))
 simp only [Yz hk]
 by_cases hjk:j=k
 ·subst hjk
  simp only [if_true,Jv hx]
  exact ⟨rfl,rfl,(upL_skip hu i (.inl hi)).symm,rfl,rfl⟩
 ·simp only [hjk,if_false,and_self]
theorem LinI.answer (h:LinI co ps cur X i e) (h8:co≤8) (hl:ps.length=co) {k:Nat} {x:Pt} (hx:ps[k]? =some x) {m:Ms} {rest:List Ms} (hu:x.an=m::rest) (hm:Qbg m.kd=true) (hg:mg m=true) (hi:m.li=(i:Int)):
 ∃(o:Mk) (a:Ms) (e':En),ansE e k m=((e',Xt o a),0)∧Qel m.li a∧(∀j:Nat,j<8→hasM o j=true→j<co)∧LinI co (Y9 (ps.set k {x with an:=rest}) (Xt o a)) cur X i e':=by
 have hk:=(Vg hx).1
 obtain ⟨o,a,d0,d1,d2,d3,d4⟩:=LI.answered h h8 (k:=k) (by omega) hm hg (V:=anL {x with an:=rest} i) (by simp only [Jv hx];exact anL_cons hu i hi)
 refine ⟨o,a,(ansE e k m).1.1,?_,d2,d3,?_⟩
 ·rw [←d1,←d0]
 ·refine LinI.sends d4 (by rw [List.length_set];exact hl) d3 (by rw [d2.2.2.1,hi]) d2.2.2.2 fun j hj=>?_
  simp only [Yz hk]
  by_cases hjk:j=k
  ·subst hjk
   simp only [if_true,Jv hx]
   exact ⟨rfl,rfl,rfl,trivial,rfl⟩
  ·simp only [hjk,if_false,and_self]
theorem LinI.answerOff (h:LinI co ps cur X i e) (hl:ps.length=co) {k:Nat} {x:Pt} (hx:ps[k]? =some x) {m:Ms} {rest:List Ms} (hu:x.an=m::rest) (hi:m.li≠(i:Int)) {o:Mk} {a:Ms} (ho:∀j:Nat,j<8→hasM o j=true→j<co) (ha:Qel m.li a):LinI co (Y9 (ps.set k {x with an:=rest}) (Xt o a)) cur X i e:=by
 have hk:=(Vg hx).1
 refine LinI.sent (h.same fun j hj=>?_) (by rw [List.length_set];exact hl) ho (.inl (by rw [ha.2.2.1];exact hi))
 simp only [Yz hk]
 by_cases hjk:j=k
 ·subst hjk
  simp only [if_true,Jv hx]
  exact ⟨rfl,rfl,rfl,(anL_skip hu i hi).symm,rfl⟩
 ·simp only [hjk,if_false,and_self]
theorem LinI.push (h:LinI co ps cur X i e) (hd:JJ e=true) {X':List Int} (hX:X'=e.l):LinI co ps cur X' i ((Jf e).setDi false):=by
 have fit:=push_fit hd
 have hb:e.bu=4∨e.bu=5:=by simp only [JJ,Bool.and_eq_true,Bool.or_eq_true,beq_iff_eq] at hd;exact hd.1.2
 have hw:e.wa=0#8:=by simp only [JJ,Bool.and_eq_true,beq_iff_eq] at hd;exact hd.2
 have hh:e.he=true:=fit.1
 have hg:JG ((Jf e).setDi false)=true:=fit.2.1
 refine ⟨hg,⟨h.lo.1,?_,h.lo.2.2.1,fun j _ h1=>?_⟩,fun j hj=>?_,h.data,fun h1=>absurd (hh.symm.trans h1) (by decide),fun _ _=>hX,fun h1=>absurd (show (0:Int)=1 from h1) (by decide),fun h1=>absurd (show (0:Int)=2 from h1) (by decide)⟩
 ·obtain ⟨p,hp,he⟩:=JU (by rcases ((YE hh).1 h.good).2 with ⟨h1,_⟩|⟨_,h1,_⟩|⟨_,h1⟩;omega;exact h1.1;exact h1.1)
  have:=h.lo.2.1
  show (0:Int)<co
  omega
 ·have h2:hasM 0#8 (j:Int)=true:=h1
  rw [ZM] at h2;cases h2
 ·have hr:=h.rel j hj
  rw [hw,ZM,bOf_fl j hb] at hr
  show Rel cur e.l (ktOf ((Jf e).setDi false)) (decide (e.ow=(j:Int))) (hasM e.sh j) (hasM 0#8 j) (bOf ((Jf e).setDi false) j) _ _ _ _ _
  rw [ZM,bOf_0 (show ((Jf e).setDi false).bu=0 from rfl)]
  exact (hr.anyKt _).1
theorem LinI.drop (h:LinI co ps cur X i e) (hco:1≤co) (hd:Qdb e=false) {X':List Int} (hX:X'=e.l):LinI co ps cur X' i enE:=by
 unfold Qdb at hd
 simp only [Bool.or_eq_false_iff,Bool.not_eq_false',decide_eq_false_iff_not,bne_eq_false_iff_eq] at hd
 obtain ⟨⟨⟨hh,ho⟩,hs⟩,hb⟩:=hd
 obtain ⟨g1,g2,g3,hr⟩:=LI.free h hh hb
 have hone:e.ow= -1:=by
  rcases g1 with h1|⟨h1,_⟩
  ·exact h1
  ·simp [isC] at h1;omega
 have hc:=h.data hh hone
 refine ⟨rfl,⟨by show (-1:Int)<co;omega,by show (0:Int)<co;omega,fun j _ h1=>?_,fun j _ h1=>?_⟩,fun j hj=>?_,fun h1=>absurd (show false=true from h1) (by decide),fun _=>hX.trans hc,fun h1=>absurd (show false=true from h1) (by decide),fun h1=>absurd (show (0:Int)=1 from h1) (by decide),fun h1=>absurd (show (0:Int)=2 from h1) (by decide)⟩
 ·have h2:hasM 0#8 (j:Int)=true:=h1
  rw [ZM] at h2;cases h2
 ·have h2:hasM 0#8 (j:Int)=true:=h1
  rw [ZM] at h2;cases h2
 ·have h1:=hr j hj
  rw [hone,decide_eq_false (by omega),hs,ZM] at h1
  obtain ⟨_,h3,h4⟩:=h1.none cur enE.l 13
  show Rel cur enE.l 13 (decide ((-1:Int)=(j:Int))) (hasM 0#8 j) (hasM 0#8 j) (bOf enE j) _ _ _ _ _
  rw [decide_eq_false (by omega),ZM,bOf_0 (show enE.bu=0 from rfl),h3]
  exact h4
theorem LinI.mem (h:LinI co ps cur X i e) {X':List Int} (hX:X'=X):LinI co ps cur X' i e:=by subst hX;exact h
end
end
end Go.Proofs.YtcgjofbkcgedfaaGreatDoor
