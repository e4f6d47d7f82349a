/- Texts of the walk, one behind the other: Dirg Prb Prc Nvm Nvmb Lines Msg. No condition. -/
import Derived.Test.YtcjoinhngdfdmaaGreatDoorCLaa
import Derived.Test.YtcjoinhngdfdmaaGreatDoorCLab
import Derived.BigQuiet
import Derived.Deep.QuietTactic
import Derived.Deep.RegionHeld3
import Derived.Deep.RegionWith
import Derived.Laws.LoneSync
import Derived.Lib.SliceRun
import Derived.Test.YtcjoinhngdfdmaaGreatDoorChecked
namespace Go.Proofs.YtcjoinhngdfdmaaGreatDoor
open Go.RowKit
set_option linter.unusedVariables false
section
set_option maxHeartbeats 1000000
def Gp (e:En):Prop:=e.ow= -1∨(isC e.ow=true∧e.sh=0#8)
def Wp (e:En):Prop:=isC e.by_=true∧∀k:Nat,k<8→hasM e.wa k=true→hasM e.sh k=true∨e.ow=(k:Int)
def Bp (e:En):Prop:=(e.bu=0∧e.by_=0∧e.wa=0#8)∨((e.bu=1∨e.bu=2)∧Wp e∧e.wa≠0#8)∨((e.bu=4∨e.bu=5)∧Wp e)
theorem isC_cast {k:Nat} (h:k<8):isC (k:Int)=true:=by simp [isC];omega
theorem has_holders (e:En) {k:Nat} (hk:k<8):hasM (holders e) k=true↔hasM e.sh k=true∨e.ow=(k:Int):=by
 unfold holders
 rw [has_or,Bool.or_eq_true,has_bit,Bool.and_eq_true,decide_eq_true_eq]
 constructor
 ·rintro (h|⟨_,h⟩)
  ·exact .inl h
  ·exact .inr h
 ·rintro (h|h)
  ·exact .inl h
  ·exact .inr ⟨by rw [h];exact isC_cast hk,h⟩
theorem sub_iff (a b:Mk):((a&&& ~~~b)==0#8)=true↔∀k:Nat,k<8→hasM a k=true→hasM b k=true:=by
 rw [zero_iff]
 constructor
 ·intro h k hk ha
  have:=h k hk
  rw [has_not,ha,Bool.true_and] at this
  simpa using this
 ·intro h k hk
  rw [has_not]
  cases ha:hasM a k
  ·rfl
  ·rw [h k hk ha];rfl
theorem goodWa_iff (e:En):goodWa e=true↔Wp e:=by
 unfold goodWa Wp
 rw [Bool.and_eq_true,sub_iff]
 constructor
 ·rintro ⟨h1,h2⟩;exact ⟨h1,fun k hk h=>(has_holders e hk).1 (h2 k hk h)⟩
 ·rintro ⟨h1,h2⟩;exact ⟨h1,fun k hk h=>(has_holders e hk).2 (h2 k hk h)⟩
theorem good_here {e:En} (h:e.he=true):goodE e=true↔Gp e∧Bp e:=by
 have h1:goodOw e=true↔Gp e:=by simp [goodOw,Gp]
 have h2:goodBu e=true↔Bp e:=by
  unfold goodBu Bp
  split
  ·rename_i h0
   simp only [Bool.and_eq_true,beq_iff_eq]
   constructor
   ·rintro ⟨a,b⟩;exact .inl ⟨h0,a,b⟩
   ·rintro (⟨_,a,b⟩|⟨a,_⟩|⟨a,_⟩)
    ·exact ⟨a,b⟩
    ·omega
    ·omega
  ·split
   ·rename_i h0 h3
    rw [Bool.and_eq_true,goodWa_iff,bne_iff_ne]
    constructor
    ·rintro ⟨a,b⟩;exact .inr (.inl ⟨h3,a,b⟩)
    ·rintro (⟨a,_⟩|⟨_,a,b⟩|⟨a,_⟩)
     ·omega
     ·exact ⟨a,b⟩
     ·omega
   ·split
    ·rename_i h0 h3 h4
     rw [goodWa_iff]
     constructor
     ·exact fun a=>.inr (.inr ⟨h4,a⟩)
     ·rintro (⟨a,_⟩|⟨a,_⟩|⟨_,a⟩)
      ·omega
      ·omega
      ·exact a
    ·rename_i h0 h3 h4
     constructor
     ·intro h;cases h
     ·rintro (⟨a,_⟩|⟨a,_⟩|⟨a,_⟩)<;>omega
 unfold goodE
 rw [if_pos h,Bool.and_eq_true,h1,h2]
theorem bits_zero (c:Int) (h:isC c=true):bitM c≠0#8:=by
 have:=bit_ne0 c
 rw [h] at this
 simpa using this
theorem has_self {c:Int} (h:isC c=true):hasM (bitM c) c=true:=by rw [has_bit,h];simp
def okS (a:En) (s:Sd):Prop:=((s.m.kd=9∨s.m.kd=10)→a.ow=s.to∧s.m.l=a.l)∧(s.m.kd=8→hasM a.sh s.to=true∧s.m.l=a.l)∧((s.m.kd=12∨s.m.kd=13)→hasM a.wa s.to=true)
def Fit7 (r:En×List Sd):Prop:=r.1.he=true∧goodE r.1=true∧∀s∈r.2,okS r.1 s
theorem tell_mem {s:Mk} {m:Ms} {x:Sd} (h:x∈tellL s m):hasM s x.to=true∧x.m=m:=by
 unfold tellL at h
 obtain ⟨c,hc,rfl⟩:=List.mem_map.1 h
 exact ⟨(mem_cores s c).1 hc,rfl⟩
theorem fit_wait {e:En} (hh:e.he=true) (hg:Gp e) (c:Int) (hc:isC c=true) (m:Ms) (o:Mk) (kd:Int) (hkd:kd=12∨kd=13) (ho:∀k:Nat,k<8→hasM o k=true→hasM e.sh k=true∨e.ow=(k:Int)) (hk:m.kd=4∨m.kd=5∨((m.kd=1∨m.kd=2)∧o≠0#8)):Fit7 (waitE e c m o kd):=by
 have hg':Gp (waitE e c m o kd).1:=hg
 have hw:Wp (waitE e c m o kd).1:=⟨hc,ho⟩
 refine ⟨hh,(good_here (e:=(waitE e c m o kd).1) hh).2 ⟨hg',?_⟩,?_⟩
 ·rcases hk with h|h|⟨h,h2⟩
  ·exact .inr (.inr ⟨.inl h,hw⟩)
  ·exact .inr (.inr ⟨.inr h,hw⟩)
  ·exact .inr (.inl ⟨h,hw,h2⟩)
 ·intro s hs
  obtain ⟨h1,h2⟩:=tell_mem (show s∈tellL o (ms4 kd m.li false false) from hs)
  have h3:s.m.kd=kd:=by rw [h2];rfl
  refine ⟨fun h=>?_,fun h=>?_,fun _=>h1⟩<;>omega
theorem fit_owned {e:En} (hh:e.he=true) (hb:e.bu=0∧e.by_=0∧e.wa=0#8) (c:Int) (hc:isC c=true) (kd li:Int) (hkd:kd=9∨kd=10):Fit7 (ownedE e c kd li):=by
 refine ⟨hh,(good_here (e:=(ownedE e c kd li).1) hh).2 ⟨.inr ⟨hc,rfl⟩,.inl hb⟩,?_⟩
 intro s hs
 rw [show (ownedE e c kd li).2=tellL (bitM c) (ms5 kd li e.l e.h) from rfl,tell_one hc] at hs
 obtain rfl:s=⟨c,ms5 kd li e.l e.h⟩:=by simpa using hs
 refine ⟨fun _=>⟨rfl,rfl⟩,fun h=>?_,fun h=>?_⟩
 ·have:kd=8:=h
  omega
 ·have:kd=12∨kd=13:=h
  omega
theorem fit_shared {e:En} (hh:e.he=true) (hg:e.ow= -1) (hb:e.bu=0∧e.by_=0∧e.wa=0#8) (c:Int) (hc:isC c=true) (li:Int):Fit7 (sharedE e c li):=by
 refine ⟨hh,(good_here (e:=(sharedE e c li).1) hh).2 ⟨.inl hg,.inl hb⟩,?_⟩
 intro s hs
 rw [show (sharedE e c li).2=tellL (bitM c) (ms5 8 li e.l e.h) from rfl,tell_one hc] at hs
 obtain rfl:s=⟨c,ms5 8 li e.l e.h⟩:=by simpa using hs
 refine ⟨fun h=>?_,fun _=>⟨?_,rfl⟩,fun h=>?_⟩
 ·have:(8:Int)=9∨(8:Int)=10:=h
  omega
 ·show hasM (e.sh|||bitM c) c=true
  rw [has_or,has_self hc,Bool.or_true]
 ·have:(8:Int)=12∨(8:Int)=13:=h
  omega
theorem hold_bit {e:En}:∀k:Nat,k<8→hasM (bitM e.ow) k=true→hasM e.sh k=true∨e.ow=(k:Int):=by
 intro k _ h
 rw [has_bit,Bool.and_eq_true,decide_eq_true_eq] at h
 exact .inr h.2
theorem busy0 {e:En} (hh:e.he=true) (g:goodE e=true) (hb:e.bu=0):Gp e∧e.bu=0∧e.by_=0∧e.wa=0#8:=by
 obtain ⟨h1,h2⟩:=(good_here hh).1 g
 refine ⟨h1,?_⟩
 rcases h2 with h|⟨h,_⟩|⟨h,_⟩
 ·exact h
 ·omega
 ·omega
theorem ask_fit {e:En} {c:Int} {m:Ms} (g:goodE e=true) (hh:e.he=true) (hb:e.bu=0) (hc:isC c=true) (hm:asksB m.kd=true):Fit7 (deedE e c m):=by
 obtain ⟨hg,hb'⟩:=busy0 hh g hb
 have hk:m.kd=1∨m.kd=2∨m.kd=3∨m.kd=4∨m.kd=5:=by simp [asksB] at hm;omega
 rcases hk with k|k|k|k|k
 ·rw [show deedE e c m=getSE e c m by simp [deedE,k]]
  unfold getSE
  split
  ·rename_i h
   refine fit_wait hh hg c hc m _ 13 (.inr rfl) hold_bit (.inr (.inr ⟨.inl k,?_⟩))
   rcases hg with h1|h1
   ·exact absurd h1 h.1
   ·exact bits_zero _ h1.1
  ·rename_i h
   split
   ·exact fit_owned hh hb' c hc 9 m.li (.inl rfl)
   ·rename_i hs
    refine fit_shared hh ?_ hb' c hc m.li
    rcases hg with h1|h1
    ·exact h1
    ·exact absurd h1.2 hs
 ·rw [show deedE e c m=getME e c m by simp [deedE,k]]
  unfold getME
  split
  ·exact fit_owned hh hb' c hc 10 m.li (.inr rfl)
  ·rename_i h
   refine fit_wait hh hg c hc m _ 12 (.inl rfl) ?_ (.inr (.inr ⟨.inr k,h⟩))
   intro j hj hj2
   rw [has_not,Bool.and_eq_true] at hj2
   exact (has_holders e hj).1 hj2.1
 ·rw [show deedE e c m=putE e c m by simp [deedE,k]]
  have hw:∀x:En,x.he=true→Gp x→(x.bu=0∧x.by_=0∧x.wa=0#8)→(withoutE x c).he=true∧goodE (withoutE x c)=true:=by
   intro x h1 h2 h3
   have h4:(withoutE x c).he=true:=by unfold withoutE;split<;>exact h1
   refine ⟨h4,(good_here h4).2 ⟨?_,?_⟩⟩
   ·unfold withoutE Gp
    split
    ·exact .inl rfl
    ·rcases h2 with h|⟨h,h'⟩
     ·exact .inl h
     ·right
      refine ⟨h,?_⟩
      show x.sh&&& ~~~(bitM c)=0#8
      rw [h']
      apply mk_ext;intro k _;rw [has_not,has_zero];rfl
   ·left
    unfold withoutE
    split<;>exact h3
  unfold putE
  have h5:(withoutE (if e.ow=c then writtenE e m else e) c).he=true∧goodE (withoutE (if e.ow=c then writtenE e m else e) c)=true:=by
   split
   ·refine hw _ ?_ ?_ ?_
    ·unfold writtenE;split<;>exact hh
    ·unfold writtenE;split<;>exact hg
    ·unfold writtenE;split<;>exact hb'
   ·exact hw e hh hg hb'
  refine ⟨h5.1,h5.2,?_⟩
  intro s hs
  obtain ⟨_,h2⟩:=tell_mem (show s∈tellL (bitM c) (ms4 11 m.li false false) from hs)
  have h3:s.m.kd=11:=by rw [h2];rfl
  refine ⟨fun h=>?_,fun h=>?_,fun h=>?_⟩<;>omega
 ·rw [show deedE e c m=cleanE e c m by simp [deedE,k]]
  exact fit_wait hh hg c hc m _ 13 (.inr rfl) hold_bit (.inl k)
 ·rw [show deedE e c m=wipeE e c m by simp [deedE,k]]
  exact fit_wait hh hg c hc m _ 12 (.inl rfl) (fun j hj h=>(has_holders e hj).1 h) (.inr (.inl k))
theorem written_parts (e:En) (m:Ms):(writtenE e m).he=e.he∧(writtenE e m).ow=e.ow∧(writtenE e m).sh=e.sh∧(writtenE e m).bu=e.bu∧(writtenE e m).by_=e.by_∧(writtenE e m).wa=e.wa:=by
 unfold writtenE;split<;>exact ⟨rfl,rfl,rfl,rfl,rfl,rfl⟩
theorem answered_parts (e:En) (c:Int) (m:Ms):(answeredE e c m).he=e.he∧(answeredE e c m).ow=(if e.ow=c then -1 else e.ow)∧(answeredE e c m).sh=(if m.ke=true then (e.sh&&& ~~~(bitM c))|||bitM c else e.sh&&& ~~~(bitM c))∧(answeredE e c m).bu=e.bu∧(answeredE e c m).by_=e.by_∧(answeredE e c m).wa=e.wa&&& ~~~(bitM c):=by
 obtain ⟨h1,h2,h3,h4,h5,h6⟩:=written_parts e m
 have hw:∀x:En,(withoutE x c).he=x.he∧(withoutE x c).ow=(if x.ow=c then -1 else x.ow)∧(withoutE x c).sh=x.sh&&& ~~~(bitM c)∧(withoutE x c).bu=x.bu∧(withoutE x c).by_=x.by_∧(withoutE x c).wa=x.wa:=by
  intro x;unfold withoutE;split<;>exact ⟨rfl,by simp [*,En.setOw,En.setSh],rfl,rfl,rfl,rfl⟩
 obtain ⟨a1,a2,a3,a4,a5,a6⟩:=hw (writtenE e m)
 unfold answeredE
 dsimp only
 split
 ·refine ⟨a1.trans h1,(show (withoutE (writtenE e m) c).ow=_ from a2).trans (by rw [h2]),?_,a4.trans h4,a5.trans h5,?_⟩
  ·show (withoutE (writtenE e m) c).sh|||bitM c=_
   rw [a3,h3]
  ·show (withoutE (writtenE e m) c).wa&&& ~~~(bitM c)=_
   rw [a6,h6]
 ·refine ⟨a1.trans h1,(show (withoutE (writtenE e m) c).ow=_ from a2).trans (by rw [h2]),?_,a4.trans h4,a5.trans h5,?_⟩
  ·show (withoutE (writtenE e m) c).sh=_
   rw [a3,h3]
  ·show (withoutE (writtenE e m) c).wa&&& ~~~(bitM c)=_
   rw [a6,h6]
theorem wait_here {e:En} {c:Int} (g:goodE e=true) (h:hasM e.wa c=true):e.he=true:=by
 cases hh:e.he
 ·have:e=enE:=by simpa [goodE,hh] using g
  subst this
  have:hasM (0#8) c=true:=h
  rw [has_zero] at this;cases this
 ·rfl
theorem answered_good {e:En} {c:Int} {m:Ms} (g:goodE e=true) (h:hasM e.wa c=true):
 (answeredE e c m).ow= -1∧Wp (answeredE e c m)∧((answeredE e c m).bu=1∨(answeredE e c m).bu=2∨(answeredE e c m).bu=4∨(answeredE e c m).bu=5):=by
 have hh:=wait_here g h
 obtain ⟨hg,hb⟩:=(good_here hh).1 g
 obtain ⟨a1,a2,a3,a4,a5,a6⟩:=answered_parts e c m
 have hw:Wp e∧(e.bu=1∨e.bu=2∨e.bu=4∨e.bu=5):=by
  rcases hb with ⟨_,_,h0⟩|⟨h0,h1,_⟩|⟨h0,h1⟩
  ·rw [h0,has_zero] at h;cases h
  ·exact ⟨h1,by omega⟩
  ·exact ⟨h1,by omega⟩
 have hcc:isC c=true:=by
  cases hc:isC c
  ·rw [has_out hc] at h;cases h
  ·rfl
 obtain ⟨k,hk,rfl⟩:=isC_nat hcc
 have how:e.ow=(k:Int)∨e.ow= -1:=by
  rcases hw.1.2 k hk h with h1|h1
  ·rcases hg with h2|⟨_,h2⟩
   ·exact .inr h2
   ·rw [h2,has_zero] at h1;cases h1
  ·exact .inl h1
 refine ⟨?_,⟨by rw [a5];exact hw.1.1,?_⟩,by rw [a4];exact hw.2⟩
 ·rw [a2]
  split
  ·rfl
  ·rcases how with h1|h1
   ·contradiction
   ·exact h1
 ·intro j hj hj2
  rw [a6,has_not,Bool.and_eq_true,Bool.not_eq_true',has_bit,hcc,Bool.true_and,decide_eq_false_iff_not] at hj2
  left
  have hsh:hasM e.sh j=true:=by
   rcases hw.1.2 j hj hj2.1 with h1|h1
   ·exact h1
   ·exfalso
    rcases how with h2|h2
    ·exact hj2.2 (h2.symm.trans h1)
    ·omega
  rw [a3]
  have hx:hasM (e.sh&&& ~~~(bitM (k:Int))) j=true:=by
   rw [has_not,hsh,has_bit,hcc,Bool.true_and,Bool.true_and,Bool.not_eq_true',decide_eq_false_iff_not];exact hj2.2
  split
  ·rw [has_or,hx];rfl
  ·exact hx
theorem ans_fit {e:En} {c:Int} {m:Ms} (g:goodE e=true) (h:hasM e.wa c=true):Fit7 (if (answeredE e c m).wa≠0#8 then (answeredE e c m,[]) else settledE (answeredE e c m) m.li):=by
 have hh:=wait_here g h
 obtain ⟨a1,_⟩:=answered_parts e c m
 obtain ⟨h1,h2,h3⟩:=answered_good (m:=m) g h
 have hh':(answeredE e c m).he=true:=a1.trans hh
 generalize answeredE e c m=a at *
 split
 ·rename_i hw
  refine ⟨hh',(good_here hh').2 ⟨.inl h1,?_⟩,by simp⟩
  rcases h3 with h3|h3|h3|h3
  ·exact .inr (.inl ⟨.inl h3,h2,hw⟩)
  ·exact .inr (.inl ⟨.inr h3,h2,hw⟩)
  ·exact .inr (.inr ⟨.inl h3,h2⟩)
  ·exact .inr (.inr ⟨.inr h3,h2⟩)
 ·unfold settledE
  split
  ·exact fit_shared (e:=overE a) hh' h1 ⟨rfl,rfl,rfl⟩ a.by_ h2.1 m.li
  ·split
   ·exact fit_owned (e:=overE a) hh' ⟨rfl,rfl,rfl⟩ a.by_ h2.1 10 m.li (.inr rfl)
   ·refine ⟨hh',(good_here hh').2 ⟨.inl h1,.inr (.inr ⟨by omega,h2⟩)⟩,by simp⟩
theorem push_fit {e:En} (g:readyE e=true):Fit7 ((overE e).setDi false,tellL (bitM e.by_) (ms4 14 0 false false)):=by
 have hg:goodE e=true:=by simp only [readyE,Bool.and_eq_true] at g;exact g.1.1
 have hb:e.bu=4∨e.bu=5:=by simpa [readyE,Bool.and_eq_true] using (show (e.bu==4||e.bu==5)=true by simp only [readyE,Bool.and_eq_true] at g;exact g.1.2)
 have hh:e.he=true:=by
  cases hh:e.he
  ·have:e=enE:=by simpa [goodE,hh] using hg
   subst this
   have:(0:Int)=4∨(0:Int)=5:=hb
   omega
  ·rfl
 obtain ⟨h1,_⟩:=(good_here hh).1 hg
 refine ⟨hh,(good_here (e:=(overE e).setDi false) hh).2 ⟨h1,.inl ⟨rfl,rfl,rfl⟩⟩,?_⟩
 intro s hs
 obtain ⟨_,h2⟩:=tell_mem (show s∈tellL (bitM e.by_) (ms4 14 0 false false) from hs)
 have h3:s.m.kd=14:=by rw [h2];rfl
 refine ⟨fun h=>?_,fun h=>?_,fun h=>?_⟩<;>omega
end
section
set_option maxHeartbeats 1000000
inductive AOkN (li:Int):Nat→List Int→Nat→List Int→List Ms→Prop
 |askS (l l':List Int):AOkN li 0 l 4 l' [ms4 1 li false false]
 |askM (l l':List Int):AOkN li 0 l 5 l' [ms4 2 li false false]
 |up (l:List Int):AOkN li 1 l 6 l [ms4 2 li false false]
 |outS (l:List Int):AOkN li 1 l 7 l [ms4 3 li false false]
 |outE (l:List Int):AOkN li 2 l 7 l [ms4 3 li false false]
 |outM (l:List Int) (m:Ms) (hk:m.kd=3) (hl:m.li=li) (hd:m.di=true) (hke:m.ke=false) (hm:m.l=l):AOkN li 3 l 9 l [m]
theorem AOk.nat {li:Int} {st st':Int} {l l':List Int} {ms:List Ms} (h:AOk li st l st' l' ms):AOkN li st.toNat l st'.toNat l' ms:=by
 cases h
 ·exact .askS _ _
 ·exact .askM _ _
 ·exact .up _
 ·exact .outS _
 ·exact .outE _
 ·rename_i m hk hl hd hke hm
  exact .outM _ m hk hl hd hke hm
inductive Bs (cur el:List Int):Bool→Bool→Nat→Nat→List Int→List Ms→List Ms→Prop
 |i (l:List Int):Bs cur el false false 0 0 l [] []
 |s1 (l:List Int) (m:Ms) (hm:m.kd=1):Bs cur el false false 0 4 l [m] []
 |s2 (l:List Int):Bs cur el false false 1 4 l [] []
 |m1 (l:List Int) (m:Ms) (hm:m.kd=2):Bs cur el false false 0 5 l [m] []
 |m2 (l:List Int):Bs cur el false false 2 5 l [] []
 |p7 (l:List Int) (a:Ms) (ha:a.kd=11):Bs cur el false false 0 7 l [] [a]
 |p8 (l:List Int) (a:Ms) (ha:a.kd=11):Bs cur el false false 0 8 l [] [a]
 |p9 (l:List Int) (a:Ms) (ha:a.kd=11):Bs cur el false false 0 9 l [] [a]
 |gn (l:List Int) (m:Ms) (hm:m.kd=3):Bs cur el false false 0 8 l [m] []
 |rS (l:List Int) (a:Ms) (ha:a.kd=8) (hl:a.l=cur):Bs cur el false true 0 4 l [] [a]
 |r1:Bs cur el false true 0 1 cur [] []
 |rU1 (m:Ms) (hm:m.kd=2):Bs cur el false true 0 6 cur [m] []
 |rU2:Bs cur el false true 2 6 cur [] []
 |rO (l:List Int) (m:Ms) (hm:m.kd=3) (hd:m.di=false):Bs cur el false true 0 7 l [m] []
 |oE (l:List Int) (a:Ms) (ha:a.kd=9) (hl:a.l=cur) (he:el=cur):Bs cur el true false 0 4 l [] [a]
 |oM (l:List Int) (a:Ms) (ha:a.kd=10) (hl:a.l=cur) (he:el=cur):Bs cur el true false 0 5 l [] [a]
 |oU (a:Ms) (ha:a.kd=10) (hl:a.l=cur) (he:el=cur):Bs cur el true false 0 6 cur [] [a]
 |o2 (he:el=cur):Bs cur el true false 0 2 cur [] []
 |o3:Bs cur el true false 0 3 cur [] []
 |oO (l:List Int) (m:Ms) (hm:m.kd=3) (hd:m.di=false) (he:el=cur):Bs cur el true false 0 7 l [m] []
 |oD (m:Ms) (hm:m.kd=3) (hd:m.di=true) (hl:m.l=cur):Bs cur el true false 0 9 cur [m] []
inductive InU:Nat→List Ms→Prop
 |z:InU 0 []
 |s (m:Ms) (hm:m.kd=1):InU 4 [m]
 |m (m:Ms) (hm:m.kd=2):InU 5 [m]
 |g (m:Ms) (hm:m.kd=3):InU 8 [m]
inductive KeU (cur:List Int):Nat→List Int→List Ms→Prop
 |r:KeU cur 1 cur []
 |u (m:Ms) (hm:m.kd=2):KeU cur 6 cur [m]
 |o (l:List Int) (m:Ms) (hm:m.kd=3) (hd:m.di=false):KeU cur 7 l [m]
inductive Ak (cur el:List Int) (a:Ms):Bool→Bool→Nat→List Int→List Ms→Prop
 |inv (ow sh:Bool) (st:Nat) (l:List Int) (U:List Ms) (hk:a.kd=6) (hke:a.ke=false) (ho:(ow||sh)=true) (hd:a.di=true→ow=true∧a.l=cur) (hc:a.di=false→ow=true→el=cur) (hU:InU st U):Ak cur el a ow sh st l U
 |dnK (st:Nat) (l:List Int) (U:List Ms) (hk:a.kd=7) (hke:a.ke=true) (hd:a.di=true→a.l=cur) (hc:a.di=false→el=cur) (hU:KeU cur st l U):Ak cur el a true false st l U
 |dnG (l:List Int) (m:Ms) (hk:a.kd=7) (hke:a.ke=false) (hd:a.di=true→a.l=cur) (hc:a.di=false→el=cur) (hm:m.kd=3):Ak cur el a true false 8 l [m]
inductive Rel (cur el:List Int) (kt:Int):Bool→Bool→Bool→Nat→Nat→List Int→List Ms→List Ms→List Ms→Prop
 |base {ow sh:Bool} {b st:Nat} {l:List Int} {U D:List Ms} (h:Bs cur el ow sh b st l U D):Rel cur el kt ow sh false b st l U [] D
 |told {ow sh:Bool} {st:Nat} {l:List Int} {U D:List Ms} (a:Ms) (h:Bs cur el ow sh 0 st l U D) (ha:a.kd=kt) (ho:(ow||sh)=true) (h13:kt=13→ow=true):Rel cur el kt ow sh true 0 st l U [] (D++[a])
 |ack {ow sh:Bool} {st:Nat} {l:List Int} {U:List Ms} (a:Ms) (h:Ak cur el a ow sh st l U) (hk:kt=12→a.ke=false):Rel cur el kt ow sh true 0 st l U [a] []
section
variable {cur el:List Int} {kt:Int} {ow sh w:Bool} {b st st':Nat} {l l':List Int} {U N D ms:List Ms}
theorem Bs.ask {li:Int} (h:Bs cur el ow sh b st l U D) (a:AOkN li st l st' l' ms):Bs cur el ow sh b st' l' (U++ms) D:=by
 cases a with
 |askS=>cases h;exact .s1 _ _ rfl
 |askM=>cases h;exact .m1 _ _ rfl
 |up=>cases h;exact .rU1 _ rfl
 |outS=>cases h;exact .rO _ _ rfl rfl
 |outE=>cases h;exact .oO _ _ rfl rfl (by assumption)
 |outM l m hk hl hd hke hm=>cases h;exact .oD _ hk hd hm
theorem Ak.ask {li:Int} {m:Ms} (h:Ak cur el m ow sh st l U) (a:AOkN li st l st' l' ms):Ak cur el m ow sh st' l' (U++ms):=by
 cases h with
 |inv ow sh st l U hk hke ho hd hc hU=>
  refine .inv _ _ _ _ _ hk hke ho hd hc ?_
  cases a with
  |askS=>cases hU;exact .s _ rfl
  |askM=>cases hU;exact .m _ rfl
  |up=>cases hU
  |outS=>cases hU
  |outE=>cases hU
  |outM=>cases hU
 |dnK st l U hk hke hd hc hU=>
  refine .dnK _ _ _ hk hke hd hc ?_
  cases a with
  |askS=>cases hU
  |askM=>cases hU
  |up=>cases hU;exact .u _ rfl
  |outS=>cases hU;exact .o _ _ rfl rfl
  |outE=>cases hU
  |outM=>cases hU
 |dnG=>cases a
theorem Rel.ask {li:Int} (h:Rel cur el kt ow sh w b st l U N D) (a:AOkN li st l st' l' ms):Rel cur el kt ow sh w b st' l' (U++ms) N D:=by
 cases h with
 |base h=>exact .base (h.ask a)
 |told m h ha ho h13=>exact .told m (h.ask a) ha ho h13
 |ack m h hk=>exact .ack m (h.ask a) hk
theorem Bs.write (h:Bs cur el ow sh b st l U D) (hs:st=2∨st=3) (cur':List Int):Bs cur' el ow sh b 3 cur' U D∧l=cur∧ow=true:=by
 rcases hs with rfl|rfl<;>cases h<;>exact ⟨.o3,rfl,rfl⟩
theorem Rel.write (h:Rel cur el kt ow sh w b st l U N D) (hs:st=2∨st=3) (cur':List Int):Rel cur' el kt ow sh w b 3 cur' U N D∧l=cur∧ow=true:=by
 cases h with
 |base h=>exact ⟨.base (h.write hs cur').1,(h.write hs cur').2⟩
 |told m h ha ho h13=>exact ⟨.told m (h.write hs cur').1 ha ho h13,(h.write hs cur').2⟩
 |ack m h=>
  exfalso
  cases h with
  |inv ow sh st l U hk hke ho hd hc hU=>cases hU<;>omega
  |dnK st l U hk hke hd hc hU=>cases hU<;>omega
  |dnG=>omega
theorem Rel.reads (h:Rel cur el kt ow sh w b st l U N D) (hs:st=1∨st=2∨st=3∨st=6):l=cur∧(ow=true∨sh=true)∧((st=2∨st=3)→ow=true):=by
 have hb:∀{b D},Bs cur el ow sh b st l U D→l=cur∧(ow=true∨sh=true)∧((st=2∨st=3)→ow=true):=by
  intro b D h
  rcases hs with rfl|rfl|rfl|rfl<;>cases h<;>simp
 cases h with
 |base h=>exact hb h
 |told m h ha ho h13=>exact hb h
 |ack m h=>
  cases h with
  |inv ow sh st l U hk hke ho hd hc hU=>cases hU<;>omega
  |dnK st l U hk hke hd hc hU=>
   cases hU with
   |r=>simp
   |u m hm=>simp
   |o l m hm hd=>omega
  |dnG=>omega
theorem Bs.anyEl (h:Bs cur el false sh b st l U D) (el':List Int):Bs cur el' false sh b st l U D:=by
 cases h
 all_goals constructor<;>assumption
theorem Rel.anyEl (h:Rel cur el kt false sh w b st l U N D) (el':List Int):Rel cur el' kt false sh w b st l U N D:=by
 cases h with
 |base h=>exact .base (h.anyEl el')
 |told m h ha ho h13=>exact .told m (h.anyEl el') ha ho h13
 |ack m h hk=>
  refine .ack m ?_ hk
  cases h with
  |inv ow sh st l U hk hke ho hd hc hU=>exact .inv _ _ _ _ _ hk hke ho hd (fun _ h=>by cases h) hU
theorem Bs.none (h:Bs cur el false false b st l U D) (cur' el':List Int):Bs cur' el' false false b st l U D:=by
 cases h
 all_goals constructor<;>assumption
theorem Rel.none (h:Rel cur el kt false false w b st l U N D) (cur' el':List Int) (kt':Int):w=false∧N=[]∧Rel cur' el' kt' false false false b st l U [] D:=by
 cases h with
 |base h=>exact ⟨rfl,rfl,.base (h.none cur' el')⟩
 |told m h ha ho h13=>cases ho
 |ack m h=>
  cases h with
  |inv ow sh st l U hk hke ho hd hc hU=>cases ho
theorem Rel.anyKt (h:Rel cur el kt ow sh false b st l U N D) (kt':Int):Rel cur el kt' ow sh false b st l U N D∧N=[]:=by
 cases h with
 |base h=>exact ⟨.base h,rfl⟩
theorem Rel.tell (h:Rel cur el kt ow sh false 0 st l U N D) (kt':Int) (a:Ms) (ha:a.kd=kt') (ho:(ow||sh)=true) (h13:kt'=13→ow=true):Rel cur el kt' ow sh true 0 st l U N (D++[a]):=by
 cases h with
 |base h=>exact .told a h ha ho h13
theorem Rel.getS {m:Ms} {V:List Ms} (h:Rel cur el kt ow sh false b st l (m::V) N D) (hm:m.kd=1):ow=false∧sh=false∧(∀el' kt',Rel cur el' kt' false false false 1 st l V N D)∧
 (∀kt' (a:Ms),a.kd=8→a.l=cur→Rel cur el kt' false true false 0 st l V N (D++[a]))∧(∀kt' (a:Ms),a.kd=9→a.l=cur→el=cur→Rel cur el kt' true false false 0 st l V N (D++[a])):=by
 cases h with
 |base h=>
  cases h with
  |s1 l m hm=>exact ⟨rfl,rfl,fun _ _=>.base (.s2 _),fun _ a h1 h2=>.base (.rS _ a h1 h2),fun _ a h1 h2 h3=>.base (.oE _ a h1 h2 h3)⟩
  |m1 l m hm=>omega
  |gn l m hm=>omega
  |rU1 m hm=>omega
  |rO l m hm hd=>omega
  |oO l m hm hd he=>omega
  |oD m hm hd hl=>omega
theorem Rel.getM {m:Ms} {V:List Ms} (h:Rel cur el kt ow sh false b st l (m::V) N D) (hm:m.kd=2):ow=false∧(∀el' kt',Rel cur el' kt' false sh false 2 st l V N D)∧
 (∀kt' (a:Ms),a.kd=10→a.l=cur→el=cur→Rel cur el kt' true false false 0 st l V N (D++[a])):=by
 cases h with
 |base h=>
  cases h with
  |s1 l m hm=>omega
  |m1 l m hm=>exact ⟨rfl,fun _ _=>.base (.m2 _),fun _ a h1 h2 h3=>.base (.oM _ a h1 h2 h3)⟩
  |gn l m hm=>omega
  |rU1 m hm=>exact ⟨rfl,fun _ _=>.base .rU2,fun _ a h1 h2 h3=>.base (.oU a h1 h2 h3)⟩
  |rO l m hm hd=>omega
  |oO l m hm hd he=>omega
  |oD m hm hd hl=>omega
theorem Rel.put {m:Ms} {V:List Ms} (h:Rel cur el kt ow sh false b st l (m::V) N D) (hm:m.kd=3):(ow=true→(m.di=true→m.l=cur)∧(m.di=false→el=cur))∧
 (∀cur' el' kt' (a:Ms),a.kd=11→Rel cur' el' kt' false false false 0 st l V N (D++[a])):=by
 cases h with
 |base h=>
  cases h with
  |s1 l m hm=>omega
  |m1 l m hm=>omega
  |gn l m hm=>exact ⟨fun h=>(by cases h),fun _ _ _ a h1=>.base (.p8 _ a h1)⟩
  |rU1 m hm=>omega
  |rO l m hm hd=>exact ⟨fun h=>(by cases h),fun _ _ _ a h1=>.base (.p7 _ a h1)⟩
  |oO l m hm hd he=>exact ⟨fun _=>⟨fun h=>absurd (hd.symm.trans h) (by decide),fun _=>he⟩,fun _ _ _ a h1=>.base (.p7 _ a h1)⟩
  |oD m hm hd hl=>exact ⟨fun _=>⟨fun _=>hl,fun h=>absurd (hd.symm.trans h) (by decide)⟩,fun _ _ _ a h1=>.base (.p9 _ a h1)⟩
theorem Rel.settleS (h:Rel cur el kt ow sh w 1 st l U N D):w=false∧ow=false∧sh=false∧∀kt' (a:Ms),a.kd=8→a.l=cur→∀el',Rel cur el' kt' false true false 0 st l U N (D++[a]):=by
 cases h with
 |base h=>
  cases h with
  |s2 l=>exact ⟨rfl,rfl,rfl,fun _ a h1 h2 _=>.base (.rS _ a h1 h2)⟩
theorem Rel.settleM (h:Rel cur el kt ow sh w 2 st l U N D):w=false∧ow=false∧∀kt' (a:Ms),a.kd=10→a.l=cur→∀el',el'=cur→Rel cur el' kt' true false false 0 st l U N (D++[a]):=by
 cases h with
 |base h=>
  cases h with
  |m2 l=>exact ⟨rfl,rfl,fun _ a h1 h2 _ h3=>.base (.oM _ a h1 h2 h3)⟩
  |rU2=>exact ⟨rfl,rfl,fun _ a h1 h2 _ h3=>.base (.oU a h1 h2 h3)⟩
theorem Ak.done {a:Ms} (h:Ak cur el a ow sh st l U) (el':List Int):Bs cur el' false a.ke 0 st l U []∧(ow=true→(a.di=true→a.l=cur)∧(a.di=false→el=cur))∧(ow=false→a.di=false):=by
 cases h with
 |inv ow sh st l U hk hke ho hd hc hU=>
  refine ⟨?_,fun h=>⟨fun h1=>(hd h1).2,fun h1=>hc h1 h⟩,fun h=>?_⟩
  ·rw [hke]
   cases hU with
   |z=>exact .i _
   |s m hm=>exact .s1 _ _ hm
   |m m hm=>exact .m1 _ _ hm
   |g m hm=>exact .gn _ _ hm
  ·cases h1:a.di
   ·rfl
   ·have:=(hd h1).1;rw [h] at this;cases this
 |dnK st l U hk hke hd hc hU=>
  refine ⟨?_,fun h=>⟨hd,hc⟩,fun h=>by cases h⟩
  rw [hke]
  cases hU with
  |r=>exact .r1
  |u m hm=>exact .rU1 _ hm
  |o l m hm hd=>exact .rO _ _ hm hd
 |dnG l m hk hke hd hc hm=>exact ⟨by rw [hke];exact .gn _ _ hm,fun h=>⟨hd,hc⟩,fun h=>by cases h⟩
theorem Rel.answer {a:Ms} {V:List Ms} (h:Rel cur el kt ow sh w b st l U (a::V) D):w=true∧V=[]∧b=0∧(ow||sh)=true∧(∀el' kt',Rel cur el' kt' false a.ke false 0 st l U V D)∧(ow=true→(a.di=true→a.l=cur)∧(a.di=false→el=cur))∧(ow=false→a.di=false)∧(kt=12→a.ke=false):=by
 cases h with
 |ack m h hk=>
  refine ⟨rfl,rfl,rfl,?_,fun el' _=>.base (h.done el').1,(h.done el).2.1,(h.done el).2.2,hk⟩
  cases h with
  |inv ow sh st l U hk hke ho hd hc hU=>exact ho
  |dnK=>rfl
  |dnG=>rfl
def HV (m:Ms) (x:Slt) (st':Int) (l':List Int):Prop:=
 (tb m.kd x.st=10→st'=0)∧(tb m.kd x.st=11→st'=x.st∧l'=x.l)∧(tb m.kd x.st≠10→tb m.kd x.st≠11→st'=tb m.kd x.st∧l'=wordsL m x (tb m.kd x.st))
theorem HV.drop {m:Ms} {x:Slt} {st':Int} {l':List Int} (h:HV m x st' l') (ht:tb m.kd x.st=10):st'.toNat=0:=by rw [h.1 ht];rfl
theorem HV.becomes {m:Ms} {x:Slt} {st':Int} {l':List Int} (h:HV m x st' l') {n:Nat} (ht:tb m.kd x.st=(n:Int)) (hn:n<10):st'.toNat=n∧l'=wordsL m x n:=by
 obtain ⟨a,b⟩:=h.2.2 (by omega) (by omega)
 rw [ht] at a b
 exact ⟨by omega,b⟩
theorem nat_of {x:Int} {n:Nat} (h0:0≤x) (h:x.toNat=n):x=(n:Int):=by omega
theorem Bs.hear {m:Ms} {V:List Ms} {x:Slt} (h0:0≤x.st) (hst:x.st.toNat=st) (h:Bs cur el ow sh b st x.l U (m::V)) {st':Int} {l':List Int} (hv:HV m x st' l'):
 tb m.kd x.st≠0∧V=[]∧answersL m.kd x (tb m.kd x.st)=[]∧Bs cur el ow sh b st'.toNat l' U []:=by
 have hs:=nat_of h0 hst
 generalize hxl:x.l=xl at h
 cases h with
 |p7 l a ha=>
  have ht:tb m.kd x.st=10:=by rw [ha,hs];rfl
  rw [hv.drop ht,ht,ha];exact ⟨by decide,rfl,rfl,.i _⟩
 |p8 l a ha=>
  have ht:tb m.kd x.st=10:=by rw [ha,hs];rfl
  rw [hv.drop ht,ht,ha];exact ⟨by decide,rfl,rfl,.i _⟩
 |p9 l a ha=>
  have ht:tb m.kd x.st=10:=by rw [ha,hs];rfl
  rw [hv.drop ht,ht,ha];exact ⟨by decide,rfl,rfl,.i _⟩
 |rS l a ha hl=>
  have ht:tb m.kd x.st=((1:Nat):Int):=by rw [ha,hs];rfl
  obtain ⟨e1,e2⟩:=hv.becomes ht (by decide)
  rw [show wordsL m x ((1:Nat):Int)=cur by unfold wordsL;rw [if_neg (by decide),if_neg (by omega),hl]] at e2
  rw [e1,e2,ht,ha];exact ⟨by decide,rfl,rfl,.r1⟩
 |oE l a ha hl he=>
  have ht:tb m.kd x.st=((2:Nat):Int):=by rw [ha,hs];rfl
  obtain ⟨e1,e2⟩:=hv.becomes ht (by decide)
  rw [show wordsL m x ((2:Nat):Int)=cur by unfold wordsL;rw [if_neg (by decide),if_neg (by omega),hl]] at e2
  rw [e1,e2,ht,ha];exact ⟨by decide,rfl,rfl,.o2 he⟩
 |oM l a ha hl he=>
  have ht:tb m.kd x.st=((2:Nat):Int):=by rw [ha,hs];rfl
  obtain ⟨e1,e2⟩:=hv.becomes ht (by decide)
  rw [show wordsL m x ((2:Nat):Int)=cur by unfold wordsL;rw [if_neg (by decide),if_neg (by omega),hl]] at e2
  rw [e1,e2,ht,ha];exact ⟨by decide,rfl,rfl,.o2 he⟩
 |oU a ha hl he=>
  have ht:tb m.kd x.st=((2:Nat):Int):=by rw [ha,hs];rfl
  obtain ⟨e1,e2⟩:=hv.becomes ht (by decide)
  rw [show wordsL m x ((2:Nat):Int)=cur by unfold wordsL;rw [if_neg (by decide),if_neg (by omega),hl]] at e2
  rw [e1,e2,ht,ha];exact ⟨by decide,rfl,rfl,.o2 he⟩
theorem Bs.gives {m:Ms} {x:Slt} (h0:0≤x.st) (hst:x.st.toNat=st) (h:Bs cur el ow sh 0 st x.l U []) (hm:m.kd=12∨m.kd=13∧ow=true) (ho:(ow||sh)=true) {st':Int} {l':List Int} (hv:HV m x st' l'):
 tb m.kd x.st≠0∧∃a,answersL m.kd x (tb m.kd x.st)=[a]∧(m.kd=12→a.ke=false)∧Ak cur el a ow sh st'.toNat l' U:=by
 have hs:=nat_of h0 hst
 have hc:∀kd ke,x.st≠3→x.st≠9→toldM kd x ke=ms4 kd x.li false ke:=fun kd ke h1 h2=>by unfold toldM;rw [if_neg (by omega)]
 have hd:∀kd ke,x.st=3∨x.st=9→toldM kd x ke=⟨kd,x.li,true,ke,x.l,x.h⟩:=fun kd ke h1=>by unfold toldM;rw [if_pos h1]
 have hke:(toldM 6 x false).ke=false:=by unfold toldM;split<;>rfl
 rcases hm with hm|⟨hm,rfl⟩
 ·have ha:∀t,answersL m.kd x t=[toldM 6 x false]:=fun t=>by unfold answersL;rw [if_pos hm]
  generalize hxl:x.l=xl at h
  cases h with
  |i=>cases ho
  |s1=>cases ho
  |m1=>cases ho
  |gn=>cases ho
  |r1=>
   have ht:tb m.kd x.st=10:=by rw [hm,hs];rfl
   rw [hv.drop ht]
   exact ⟨by rw [ht];decide,_,ha _,fun _=>hke,by rw [hc _ _ (by omega) (by omega)];exact .inv _ _ _ _ _ rfl rfl rfl (fun h=>by cases h) (fun _ h=>by cases h) .z⟩
  |rU1 m' hm'=>
   have ht:tb m.kd x.st=((5:Nat):Int):=by rw [hm,hs];rfl
   obtain ⟨e1,e2⟩:=hv.becomes ht (by decide)
   rw [e1]
   exact ⟨by rw [ht];decide,_,ha _,fun _=>hke,by rw [hc _ _ (by omega) (by omega)];exact .inv _ _ _ _ _ rfl rfl rfl (fun h=>by cases h) (fun _ h=>by cases h) (.m _ hm')⟩
  |rO l m' hm' hd'=>
   have ht:tb m.kd x.st=((8:Nat):Int):=by rw [hm,hs];rfl
   obtain ⟨e1,e2⟩:=hv.becomes ht (by decide)
   rw [e1]
   exact ⟨by rw [ht];decide,_,ha _,fun _=>hke,by rw [hc _ _ (by omega) (by omega)];exact .inv _ _ _ _ _ rfl rfl rfl (fun h=>by cases h) (fun _ h=>by cases h) (.g _ hm')⟩
  |o2 he=>
   have ht:tb m.kd x.st=10:=by rw [hm,hs];rfl
   rw [hv.drop ht]
   exact ⟨by rw [ht];decide,_,ha _,fun _=>hke,by rw [hc _ _ (by omega) (by omega)];exact .inv _ _ _ _ _ rfl rfl rfl (fun h=>by cases h) (fun _ _=>he) .z⟩
  |o3=>
   have ht:tb m.kd x.st=10:=by rw [hm,hs];rfl
   rw [hv.drop ht]
   exact ⟨by rw [ht];decide,_,ha _,fun _=>hke,by rw [hd _ _ (by omega)];exact .inv _ _ _ _ _ rfl rfl rfl (fun _=>⟨rfl,hxl⟩) (fun h=>by cases h) .z⟩
  |oO l m' hm' hd' he=>
   have ht:tb m.kd x.st=((8:Nat):Int):=by rw [hm,hs];rfl
   obtain ⟨e1,e2⟩:=hv.becomes ht (by decide)
   rw [e1]
   exact ⟨by rw [ht];decide,_,ha _,fun _=>hke,by rw [hc _ _ (by omega) (by omega)];exact .inv _ _ _ _ _ rfl rfl rfl (fun h=>by cases h) (fun _ _=>he) (.g _ hm')⟩
  |oD m' hm' hd' hl'=>
   have ht:tb m.kd x.st=((8:Nat):Int):=by rw [hm,hs];rfl
   obtain ⟨e1,e2⟩:=hv.becomes ht (by decide)
   rw [e1]
   exact ⟨by rw [ht];decide,_,ha _,fun _=>hke,by rw [hd _ _ (by omega)];exact .inv _ _ _ _ _ rfl rfl rfl (fun _=>⟨rfl,hxl⟩) (fun h=>by cases h) (.g _ hm')⟩
 ·have ha:∀t,answersL m.kd x t=[toldM 7 x (t==1)]:=fun t=>by unfold answersL;rw [if_neg (by omega),if_pos hm]
  generalize hxl:x.l=xl at h
  cases h with
  |o2 he=>
   have ht:tb m.kd x.st=((1:Nat):Int):=by rw [hm,hs];rfl
   obtain ⟨e1,e2⟩:=hv.becomes ht (by decide)
   rw [show wordsL m x ((1:Nat):Int)=cur by unfold wordsL;rw [if_neg (by decide),if_pos hm,hxl]] at e2
   rw [e1,e2]
   exact ⟨by rw [ht];decide,_,ha _,fun h=>absurd (hm.symm.trans h) (by decide),by rw [ht,hc _ _ (by omega) (by omega)];exact .dnK _ _ _ rfl rfl (fun h=>by cases h) (fun _=>he) .r⟩
  |o3=>
   have ht:tb m.kd x.st=((1:Nat):Int):=by rw [hm,hs];rfl
   obtain ⟨e1,e2⟩:=hv.becomes ht (by decide)
   rw [show wordsL m x ((1:Nat):Int)=cur by unfold wordsL;rw [if_neg (by decide),if_pos hm,hxl]] at e2
   rw [e1,e2]
   exact ⟨by rw [ht];decide,_,ha _,fun h=>absurd (hm.symm.trans h) (by decide),by rw [ht,hd _ _ (by omega)];exact .dnK _ _ _ rfl rfl (fun _=>hxl) (fun h=>by cases h) .r⟩
  |oO l m' hm' hd' he=>
   have ht:tb m.kd x.st=((8:Nat):Int):=by rw [hm,hs];rfl
   obtain ⟨e1,e2⟩:=hv.becomes ht (by decide)
   rw [e1]
   exact ⟨by rw [ht];decide,_,ha _,fun h=>absurd (hm.symm.trans h) (by decide),by rw [ht,hc _ _ (by omega) (by omega)];exact .dnG _ _ rfl rfl (fun h=>by cases h) (fun _=>he) hm'⟩
  |oD m' hm' hd' hl'=>
   have ht:tb m.kd x.st=((8:Nat):Int):=by rw [hm,hs];rfl
   obtain ⟨e1,e2⟩:=hv.becomes ht (by decide)
   rw [e1]
   exact ⟨by rw [ht];decide,_,ha _,fun h=>absurd (hm.symm.trans h) (by decide),by rw [ht,hd _ _ (by omega)];exact .dnG _ _ rfl rfl (fun _=>hxl) (fun h=>by cases h) hm'⟩
theorem Bs.one (h:Bs cur el ow sh b st l U D):D=[]∨∃a,D=[a]:=by
 cases h<;>simp
theorem Rel.hear {m:Ms} {V:List Ms} {x:Slt} (h0:0≤x.st) (hkt:kt=12∨kt=13) (h:Rel cur el kt ow sh w b x.st.toNat x.l U N (m::V)) {st':Int} {l':List Int} (hv:HV m x st' l'):
 tb m.kd x.st≠0∧Rel cur el kt ow sh w b st'.toNat l' U (N++answersL m.kd x (tb m.kd x.st)) V:=by
 generalize hst:x.st.toNat=st at h
 generalize hxl:x.l=xl at h
 generalize hDD:m::V=DD at h
 cases h with
 |base h=>
  subst hDD hxl
  obtain ⟨a1,rfl,a3,a4⟩:=h.hear h0 hst hv
  rw [a3]
  exact ⟨a1,.base a4⟩
 |told a h ha ho h13=>
  subst hxl
  rcases h.one with rfl|⟨d,rfl⟩
  ·simp only [List.nil_append,List.cons.injEq] at hDD
   obtain ⟨rfl,rfl⟩:=hDD
   obtain ⟨a1,r,a2,ake,a3⟩:=h.gives (m:=m) h0 hst (by rcases hkt with h1|h1;exact .inl (ha.trans h1);exact .inr ⟨ha.trans h1,h13 h1⟩) ho hv
   rw [a2]
   exact ⟨a1,.ack r a3 (fun h1=>ake (ha.trans h1))⟩
  ·simp only [List.cons_append,List.nil_append,List.cons.injEq] at hDD
   obtain ⟨rfl,rfl⟩:=hDD
   obtain ⟨a1,_,a3,a4⟩:=h.hear h0 hst hv
   rw [a3]
   exact ⟨a1,.told (D:=[]) a a4 ha ho h13⟩
 |ack a h=>cases hDD
end
end
section
set_option maxHeartbeats 1000000
def ktOf (e:En):Int:=if e.bu=2∨e.bu=5 then 12 else 13
theorem ktOf_or (e:En):ktOf e=12∨ktOf e=13:=by unfold ktOf;split<;>simp
def bOf (e:En) (k:Nat):Nat:=if e.by_=(k:Int) then (if e.bu=1 then 1 else if e.bu=2 then 2 else 0) else 0
def Lo (n:Nat) (e:En):Prop:=e.ow<n∧e.by_<n∧(∀k:Nat,k<8→hasM e.sh k=true→k<n)∧∀k:Nat,k<8→hasM e.wa k=true→k<n
structure LI (co:Nat) (cur X:List Int) (e:En) (st:Nat→Nat) (l:Nat→List Int) (U N D:Nat→List Ms):Prop where
 good:goodE e=true
 lo:Lo co e
 rel:∀j:Nat,j<co→Rel cur e.l (ktOf e) (decide (e.ow=(j:Int))) (hasM e.sh j) (hasM e.wa j) (bOf e j) (st j) (l j) (U j) (N j) (D j)
 data:e.he=true→e.ow= -1→e.l=cur
 mem0:e.he=false→X=cur
 mem1:e.he=true→e.di=false→X=e.l
 wait1:e.bu=1→e.ow≠ -1→hasM e.wa e.ow=true
 wait2:e.bu=2→∀j:Nat,j<8→(hasM e.sh j=true∨e.ow=(j:Int))→(j:Int)≠e.by_→hasM e.wa j=true
def hereP (e:En) (l:List Int) (h:l.length=8):En:=if e.he=true then e else (e.setHe true).setL l h
def TellOk (li:Int) (a:Ms):Prop:=mg a=true∧tellsB a.kd=true∧a.li=li∧a.kd≠14
theorem tellOk4 {li:Int} (h:lineB li=true) (kt:Int) (hk:kt=11∨kt=12∨kt=13):TellOk li (ms4 kt li false false):=by
 refine ⟨?_,?_,rfl,by show kt≠14;omega⟩
 ·rcases hk with rfl|rfl|rfl<;>simp [mg,ms4,kindB,h]
 ·rcases hk with rfl|rfl|rfl<;>rfl
theorem tellOk5 {li:Int} (h:lineB li=true) (kt:Int) (hk:kt=8∨kt=9∨kt=10) (l:List Int) (hl:l.length=8):TellOk li (ms5 kt li l hl):=by
 refine ⟨?_,?_,rfl,by show kt≠14;omega⟩
 ·rcases hk with rfl|rfl|rfl<;>simp [mg,ms5,kindB,mayW,h]
 ·rcases hk with rfl|rfl|rfl<;>rfl
theorem bOf_0 {e:En} (h:e.bu=0) (k:Nat):bOf e k=0:=by unfold bOf;rw [h];simp
theorem bOf_ne {e:En} {k:Nat} (h:e.by_≠(k:Int)):bOf e k=0:=by unfold bOf;rw [if_neg h]
theorem bOf_fl {e:En} (k:Nat) (h:e.bu=4∨e.bu=5):bOf e k=0:=by unfold bOf;rcases h with h|h<;>rw [h]<;>simp
theorem has_bitN (c:Int) (hc:isC c=true) (j:Nat):hasM (bitM c) (j:Int)=decide (c=(j:Int)):=by rw [has_bit,hc,Bool.true_and]
section
variable {co:Nat} {cur X:List Int} {e:En} {st:Nat→Nat} {l:Nat→List Int} {U N D:Nat→List Ms}
theorem LI.free (h:LI co cur X e st l U N D) (hh:e.he=true) (hb:e.bu=0):Gp e∧e.by_=0∧e.wa=0#8∧∀j:Nat,j<co→Rel cur e.l (ktOf e) (decide (e.ow=(j:Int))) (hasM e.sh j) false 0 (st j) (l j) (U j) (N j) (D j):=by
 obtain ⟨h1,_,h2,h3⟩:=busy0 hh h.good hb
 refine ⟨h1,h2,h3,fun j hj=>?_⟩
 have:=h.rel j hj
 rw [h3,has_zero,bOf_0 hb] at this
 exact this
theorem LI.here (h:LI co cur X e st l U N D) (hX:X.length=8):LI co cur X (hereP e X hX) st l U N D∧(hereP e X hX).he=true∧(hereP e X hX).bu=e.bu:=by
 unfold hereP
 by_cases hh:e.he=true
 ·rw [if_pos hh];exact ⟨h,hh,rfl⟩
 ·rw [if_neg hh]
  have hh':e.he=false:=by simpa using hh
  have he:e=enE:=by
   have:=h.good
   unfold goodE at this
   rw [if_neg hh] at this
   simpa using this
  have hc:=h.mem0 hh'
  have hr:=h.rel
  subst he
  refine ⟨⟨by simp [goodE,goodOw,goodBu,En.setHe,En.setL,enE],h.lo,?_,fun _ _=>hc,fun h1=>absurd (show true=false from h1) (by decide),fun _ _=>rfl,fun h1=>absurd (show (0:Int)=1 from h1) (by decide),fun h1=>absurd (show (0:Int)=2 from h1) (by decide)⟩,rfl,rfl⟩
  intro j hj
  have h1:=hr j hj
  have e1:decide (((enE.setHe true).setL X hX).ow=(j:Int))=false:=by
   show decide ((-1:Int)=(j:Int))=false
   exact decide_eq_false (by omega)
  have e2:decide (enE.ow=(j:Int))=false:=e1
  rw [e2] at h1
  rw [e1]
  exact h1.anyEl _
theorem LI.waits (h:LI co cur X e st l U N D) (h8:co≤8) (hh:e.he=true) (hb:e.bu=0) {k:Nat} (hk:k<co) {m:Ms} {kt:Int} {o:Mk} (hkt:kt=if m.kd=2∨m.kd=5 then 12 else 13) (hkd:m.kd=1∨m.kd=2∨m.kd=4∨m.kd=5)
 (hg:goodE (waitE e k m o kt).1=true) (ho:∀j:Nat,j<8→hasM o j=true→hasM e.sh j=true∨e.ow=(j:Int)) (h13:kt=13→∀j:Nat,j<8→hasM o j=true→e.ow=(j:Int))
 {U':Nat→List Ms} (hU:∀j,j≠k→U' j=U j) (hU2:m.kd=4∨m.kd=5→U' k=U k) (hR:m.kd=1∨m.kd=2→hasM o k=false∧Rel cur e.l kt (decide (e.ow=(k:Int))) (hasM e.sh k) false m.kd.toNat (st k) (l k) (U' k) (N k) (D k))
 (w1:m.kd=1→e.ow≠ -1→hasM o e.ow=true) (w2:m.kd=2→∀j:Nat,j<8→(hasM e.sh j=true∨e.ow=(j:Int))→(j:Int)≠k→hasM o j=true):
 LI co cur X (waitE e k m o kt).1 st l U' N (fun j=>D j++if hasM o j=true then [ms4 kt m.li false false] else []):=by
 obtain ⟨g1,g2,g3,hr⟩:=h.free hh hb
 refine ⟨hg,⟨h.lo.1,by show (k:Int)<co;omega,h.lo.2.2.1,?_⟩,?_,h.data,h.mem0,h.mem1,w1,w2⟩
 ·intro j hj h1
  rcases ho j hj h1 with h2|h2
  ·exact h.lo.2.2.1 j hj h2
  ·have:=h.lo.1;omega
 ·intro j hj
  have hkt':ktOf (waitE e k m o kt).1=kt:=by rw [hkt];rfl
  rw [hkt']
  show Rel cur e.l kt (decide (e.ow=(j:Int))) (hasM e.sh j) (hasM o j) (bOf (waitE e k m o kt).1 j) (st j) (l j) (U' j) (N j) (D j++if hasM o j=true then [ms4 kt m.li false false] else [])
  have hby:(waitE e k m o kt).1.by_=(k:Int):=rfl
  have hbu:(waitE e k m o kt).1.bu=m.kd:=rfl
  by_cases hjk:j=k
  ·subst hjk
   by_cases hf:m.kd=4∨m.kd=5
   ·rw [hU2 hf,bOf_fl j (by rw [hbu];exact hf)]
    cases h1:hasM o (j:Int)
    ·simp only [Bool.false_eq_true,if_false,List.append_nil]
     exact ((hr j hj).anyKt kt).1
    ·rw [if_pos rfl]
     refine (hr j hj).tell kt _ rfl ?_ ?_
     ·rcases ho j (by omega) h1 with h2|h2<;>simp [h2]
     ·intro h2;simpa using h13 h2 j (by omega) h1
   ·have h12:m.kd=1∨m.kd=2:=by omega
    obtain ⟨a,b⟩:=hR h12
    rw [a]
    simp only [Bool.false_eq_true,if_false,List.append_nil]
    have:bOf (waitE e j m o kt).1 j=m.kd.toNat:=by
     unfold bOf
     rw [if_pos hby,hbu]
     rcases h12 with h|h<;>rw [h]<;>rfl
    rw [this]
    exact b
  ·rw [hU j hjk,bOf_ne (by rw [hby];omega)]
   cases h1:hasM o (j:Int)
   ·simp only [Bool.false_eq_true,if_false,List.append_nil]
    exact ((hr j hj).anyKt kt).1
   ·rw [if_pos rfl]
    refine (hr j hj).tell kt _ rfl ?_ ?_
    ·rcases ho j (by omega) h1 with h2|h2<;>simp [h2]
    ·intro h2;simpa using h13 h2 j (by omega) h1
theorem LI.owns {kt0:Int} (h8:co≤8) (hh:e.he=true) (hb:e.bu=0) (hby:e.by_=0) (hw:e.wa=0#8) {k:Nat} (hk:k<co) {kd li:Int} (hg:goodE (ownedE e k kd li).1=true) (hc:e.l=cur)
 (hm1:e.di=false→X=e.l) (hn:∀j:Nat,j<co→j≠k→hasM e.sh j=false∧e.ow≠(j:Int)) {U':Nat→List Ms} (hr:∀j:Nat,j<co→j≠k→Rel cur e.l kt0 (decide (e.ow=(j:Int))) (hasM e.sh j) false 0 (st j) (l j) (U' j) (N j) (D j))
 (hR:∀a:Ms,a.kd=kd→a.l=cur→Rel cur e.l 13 true false false 0 (st k) (l k) (U' k) (N k) (D k++[a])):
 LI co cur X (ownedE e k kd li).1 st l U' N (fun j=>D j++if hasM (bitM (k:Int)) j=true then [ms5 kd li e.l e.h] else []):=by
 have hbu:(ownedE e k kd li).1.bu=0:=hb
 refine ⟨hg,⟨by show (k:Int)<co;omega,by show e.by_<co;omega,fun j _ h1=>?_,fun j _ h1=>?_⟩,?_,fun _ h1=>?_,fun h1=>?_,fun _=>hm1,fun h1=>?_,fun h1=>?_⟩
 ·have h2:hasM 0#8 (j:Int)=true:=h1
  rw [has_zero] at h2;cases h2
 ·have h2:hasM e.wa (j:Int)=true:=h1
  rw [hw,has_zero] at h2;cases h2
 ·intro j hj
  show Rel cur e.l (ktOf (ownedE e k kd li).1) (decide ((k:Int)=(j:Int))) (hasM 0#8 j) (hasM e.wa j) (bOf (ownedE e k kd li).1 j) (st j) (l j) (U' j) (N j) (D j++if hasM (bitM (k:Int)) j=true then [ms5 kd li e.l e.h] else [])
  rw [bOf_0 hbu,hw,has_zero,has_bitN _ (isC_cast (by omega)),show ktOf (ownedE e k kd li).1=13 by unfold ktOf;rw [hbu];rfl]
  by_cases hjk:j=k
  ·subst hjk
   rw [decide_eq_true rfl,if_pos rfl]
   exact hR _ rfl hc
  ·rw [decide_eq_false (by omega)]
   simp only [Bool.false_eq_true,if_false,List.append_nil]
   have h1:=hr j hj hjk
   obtain ⟨h2,h3⟩:=hn j hj hjk
   rw [h2,decide_eq_false h3] at h1
   obtain ⟨_,h4,h5⟩:=h1.none cur e.l 13
   rw [h4];exact h5
 ·have h2:(k:Int)= -1:=h1
  omega
 ·exact absurd (hh.symm.trans h1) (by decide)
 ·exact absurd (hbu.symm.trans h1) (by decide)
 ·exact absurd (hbu.symm.trans h1) (by decide)
theorem LI.shares {kt0:Int} (h8:co≤8) (hh:e.he=true) (hb:e.bu=0) (hby:e.by_=0) (hw:e.wa=0#8) {k:Nat} (hk:k<co) {li:Int} (hg:goodE (sharedE e k li).1=true) (hc:e.l=cur) (hlo:∀j:Nat,j<8→hasM e.sh j=true→j<co)
 (hm1:e.di=false→X=e.l) (hn:e.ow= -1) {U':Nat→List Ms} (hr:∀j:Nat,j<co→j≠k→Rel cur e.l kt0 (decide (e.ow=(j:Int))) (hasM e.sh j) false 0 (st j) (l j) (U' j) (N j) (D j))
 (hR:∀a:Ms,a.kd=8→a.l=cur→Rel cur e.l 13 false true false 0 (st k) (l k) (U' k) (N k) (D k++[a])):
 LI co cur X (sharedE e k li).1 st l U' N (fun j=>D j++if hasM (bitM (k:Int)) j=true then [ms5 8 li e.l e.h] else []):=by
 have hbu:(sharedE e k li).1.bu=0:=hb
 have hkC:isC (k:Int)=true:=isC_cast (by omega)
 refine ⟨hg,⟨by show e.ow<co;omega,by show e.by_<co;omega,fun j hj h1=>?_,fun j _ h1=>?_⟩,?_,fun _ _=>hc,fun h1=>?_,fun _=>hm1,fun h1=>?_,fun h1=>?_⟩
 ·have h2:hasM (e.sh|||bitM (k:Int)) (j:Int)=true:=h1
  rw [has_or,has_bitN _ hkC,Bool.or_eq_true,decide_eq_true_eq] at h2
  rcases h2 with h2|h2
  ·exact hlo j hj h2
  ·omega
 ·have h2:hasM e.wa (j:Int)=true:=h1
  rw [hw,has_zero] at h2;cases h2
 ·intro j hj
  show Rel cur e.l (ktOf (sharedE e k li).1) (decide (e.ow=(j:Int))) (hasM (e.sh|||bitM (k:Int)) j) (hasM e.wa j) (bOf (sharedE e k li).1 j) (st j) (l j) (U' j) (N j) (D j++if hasM (bitM (k:Int)) j=true then [ms5 8 li e.l e.h] else [])
  rw [bOf_0 hbu,hw,has_zero,has_or,has_bitN _ hkC,show ktOf (sharedE e k li).1=13 by unfold ktOf;rw [hbu];rfl]
  by_cases hjk:j=k
  ·subst hjk
   rw [decide_eq_true rfl,if_pos rfl,Bool.or_true,decide_eq_false (by omega)]
   exact hR _ rfl hc
  ·rw [decide_eq_false (show ¬(k:Int)=(j:Int) by omega),Bool.or_false]
   simp only [Bool.false_eq_true,if_false,List.append_nil]
   exact ((hr j hj hjk).anyKt 13).1
 ·exact absurd (hh.symm.trans h1) (by decide)
 ·exact absurd (hbu.symm.trans h1) (by decide)
 ·exact absurd (hbu.symm.trans h1) (by decide)
theorem LI.deed (h:LI co cur X e st l U N D) (h8:co≤8) (hh:e.he=true) (hb:e.bu=0) {k:Nat} (hk:k<co) {m:Ms} (hm:asksB m.kd=true) (hli:lineB m.li=true) {V:List Ms} (hU:m.kd≤3→U k=m::V):
 ∃(o:Mk) (a:Ms),(deedE e k m).2=tellL o a∧TellOk m.li a∧(∀j:Nat,j<8→hasM o j=true→j<co)∧
  LI co cur X (deedE e k m).1 st l (fun j=>if m.kd≤3∧j=k then V else U j) N (fun j=>D j++if hasM o j=true then [a] else []):=by
 obtain ⟨g1,g2,g3,hr⟩:=h.free hh hb
 have hkC:isC (k:Int)=true:=isC_cast (by omega)
 have fit:=ask_fit h.good hh hb hkC hm
 have hkk:m.kd=1∨m.kd=2∨m.kd=3∨m.kd=4∨m.kd=5:=by simp [asksB] at hm;omega
 have hown:∀j:Nat,e.ow=(j:Int)→j<co:=fun j hj=>by have:=h.lo.1;omega
 have hoB:∀j:Nat,hasM (bitM (k:Int)) (j:Int)=true→j<co:=fun j hj=>by rw [has_bitN _ hkC,decide_eq_true_eq] at hj;omega
 rcases hkk with kd|kd|kd|kd|kd
 ·rw [show deedE e k m=getSE e k m by simp [deedE,kd]] at fit ⊢
  have hUk:=hU (by omega)
  have hrk:=hr k hk
  rw [hUk] at hrk
  obtain ⟨n1,n2,r1,r2,r3⟩:=hrk.getS kd
  have n1':e.ow≠(k:Int):=by simpa using n1
  unfold getSE at fit ⊢
  by_cases hc:e.ow≠ -1∧e.ow≠k
  ·rw [if_pos hc] at fit ⊢
   have hoC:isC e.ow=true:=by
    rcases g1 with h1|h1
    ·exact absurd h1 hc.1
    ·exact h1.1
   refine ⟨_,_,rfl,tellOk4 hli 13 (by omega),fun j _ h1=>?_,?_⟩
   ·rw [has_bitN _ hoC,decide_eq_true_eq] at h1;exact hown j h1
   ·refine h.waits h8 hh hb hk (kt:=13) (by rw [kd];rfl) (.inl kd) fit.2.1 hold_bit ?_ ?_ ?_ ?_ (fun _ _=>has_self hoC) (fun h1=>by omega)
    ·intro _ j _ h1;rw [has_bitN _ hoC,decide_eq_true_eq] at h1;exact h1
    ·intro j hj;simp [hj]
    ·intro h1;omega
    ·intro _
     refine ⟨by rw [has_bitN _ hoC];simpa using hc.2,?_⟩
     simp only [and_true,if_pos (show m.kd≤3 by omega)]
     rw [n1,n2,kd]
     exact r1 _ _
  ·rw [if_neg hc] at fit ⊢
   have hone:e.ow= -1:=by
    by_cases h1:e.ow= -1
    ·exact h1
    ·exact absurd ⟨h1,n1'⟩ hc
   by_cases hs:e.sh=0#8
   ·rw [if_pos hs] at fit ⊢
    refine ⟨_,_,rfl,tellOk5 hli 9 (by omega) _ _,fun j _ h1=>hoB j h1,?_⟩
    refine LI.owns h8 hh hb g2 g3 hk fit.2.1 (h.data hh hone) (h.mem1 hh) ?_ (kt0:=ktOf e) ?_ ?_
    ·intro j _ _;exact ⟨by rw [hs,has_zero],by omega⟩
    ·intro j hj hjk
     rw [if_neg (by simp [hjk])]
     exact hr j hj
    ·intro a h1 h2
     simp only [and_true,if_pos (show m.kd≤3 by omega)]
     exact r3 _ a h1 h2 (h.data hh hone)
   ·rw [if_neg hs] at fit ⊢
    refine ⟨_,_,rfl,tellOk5 hli 8 (by omega) _ _,fun j _ h1=>hoB j h1,?_⟩
    refine LI.shares h8 hh hb g2 g3 hk fit.2.1 (h.data hh hone) h.lo.2.2.1 (h.mem1 hh) hone (kt0:=ktOf e) ?_ ?_
    ·intro j hj hjk
     rw [if_neg (by simp [hjk])]
     exact hr j hj
    ·intro a h1 h2
     simp only [and_true,if_pos (show m.kd≤3 by omega)]
     exact r2 _ a h1 h2
 ·rw [show deedE e k m=getME e k m by simp [deedE,kd]] at fit ⊢
  have hUk:=hU (by omega)
  have hrk:=hr k hk
  rw [hUk] at hrk
  obtain ⟨n1,r1,r3⟩:=hrk.getM kd
  have n1':e.ow≠(k:Int):=by simpa using n1
  have hoth:∀j:Nat,j<8→(hasM (holders e&&& ~~~(bitM (k:Int))) (j:Int)=true↔(hasM e.sh j=true∨e.ow=(j:Int))∧j≠k):=by
   intro j hj
   rw [has_not,Bool.and_eq_true,has_holders e hj,Bool.not_eq_true',has_bitN _ hkC,decide_eq_false_iff_not]
   exact and_congr_right fun _=>not_congr (by omega)
  unfold getME at fit ⊢
  by_cases hc:(holders e&&& ~~~(bitM (k:Int)))=0#8
  ·rw [if_pos hc] at fit ⊢
   have hnone:∀j:Nat,j<8→j≠k→hasM e.sh j=false∧e.ow≠(j:Int):=by
    intro j hj hjk
    have h1:=hoth j hj
    rw [hc,has_zero] at h1
    constructor
    ·cases h2:hasM e.sh (j:Int)
     ·rfl
     ·exact absurd (h1.2 ⟨.inl h2,hjk⟩) (by decide)
    ·intro h2;exact absurd (h1.2 ⟨.inr h2,hjk⟩) (by decide)
   have hone:e.ow= -1:=by
    rcases g1 with h1|⟨h1,_⟩
    ·exact h1
    ·obtain ⟨j,hj,hj2⟩:=isC_nat h1
     by_cases hjk:j=k
     ·subst hjk;exact absurd hj2 n1'
     ·exact absurd hj2 (hnone j hj hjk).2
   refine ⟨_,_,rfl,tellOk5 hli 10 (by omega) _ _,fun j _ h1=>hoB j h1,?_⟩
   refine LI.owns h8 hh hb g2 g3 hk fit.2.1 (h.data hh hone) (h.mem1 hh) (fun j hj hjk=>hnone j (by omega) hjk) (kt0:=ktOf e) ?_ ?_
   ·intro j hj hjk
    rw [if_neg (by simp [hjk])]
    exact hr j hj
   ·intro a h1 h2
    simp only [and_true,if_pos (show m.kd≤3 by omega)]
    exact r3 _ a h1 h2 (h.data hh hone)
  ·rw [if_neg hc] at fit ⊢
   refine ⟨_,_,rfl,tellOk4 hli 12 (by omega),fun j hj h1=>?_,?_⟩
   ·rcases ((hoth j hj).1 h1).1 with h2|h2
    ·exact h.lo.2.2.1 j hj h2
    ·exact hown j h2
   ·refine h.waits h8 hh hb hk (kt:=12) (by rw [kd];rfl) (.inr (.inl kd)) fit.2.1 (fun j hj h1=>((hoth j hj).1 h1).1) (fun h1=>by omega) ?_ ?_ ?_ (fun h1=>by omega) (fun _ j hj h1 h2=>(hoth j hj).2 ⟨h1,by omega⟩)
    ·intro j hj;simp [hj]
    ·intro h1;omega
    ·intro _
     refine ⟨?_,?_⟩
     ·cases h1:hasM (holders e&&& ~~~(bitM (k:Int))) (k:Int)
      ·rfl
      ·exact absurd rfl ((hoth k (by omega)).1 h1).2
     ·simp only [and_true,if_pos (show m.kd≤3 by omega)]
      rw [n1,kd]
      exact r1 _ _
 ·rw [show deedE e k m=putE e k m by simp [deedE,kd]] at fit ⊢
  have hUk:=hU (by omega)
  have hrk:=hr k hk
  rw [hUk] at hrk
  obtain ⟨r1,r2⟩:=hrk.put kd
  refine ⟨_,_,rfl,tellOk4 hli 11 (by omega),fun j _ h1=>hoB j h1,?_⟩
  have hw:∀x:En,(withoutE x k).he=x.he∧(withoutE x k).di=x.di∧(withoutE x k).l=x.l∧(withoutE x k).ow=(if x.ow=k then -1 else x.ow)∧(withoutE x k).sh=x.sh&&& ~~~(bitM (k:Int))∧(withoutE x k).bu=x.bu∧(withoutE x k).by_=x.by_∧(withoutE x k).wa=x.wa:=by
   intro x;unfold withoutE;split<;>exact ⟨rfl,rfl,rfl,by simp [*,En.setOw,En.setSh],rfl,rfl,rfl,rfl⟩
  have hp:(putE e k m).1=withoutE (if e.ow=k then writtenE e m else e) k:=rfl
  obtain ⟨q1,q2,q3,q4,q5,q6,q7,q8⟩:=hw (if e.ow=k then writtenE e m else e)
  rw [←hp] at q1 q2 q3 q4 q5 q6 q7 q8
  have hz:(if e.ow=(k:Int) then writtenE e m else e).ow=e.ow∧(if e.ow=(k:Int) then writtenE e m else e).sh=e.sh∧(if e.ow=(k:Int) then writtenE e m else e).bu=0∧(if e.ow=(k:Int) then writtenE e m else e).by_=0∧(if e.ow=(k:Int) then writtenE e m else e).wa=0#8:=by
   obtain ⟨_,b2,b3,b4,b5,b6⟩:=written_parts e m
   split
   ·exact ⟨b2,b3,b4.trans hb,b5.trans g2,b6.trans g3⟩
   ·exact ⟨rfl,rfl,hb,g2,g3⟩
  obtain ⟨z1,z2,z3,z4,z5⟩:=hz
  rw [z1] at q4
  rw [z2] at q5
  rw [z3] at q6
  rw [z4] at q7
  rw [z5] at q8
  have hl:e.ow=(k:Int)→(putE e k m).1.l=cur∧(m.di=true→(putE e k m).1.di=true)∧(m.di=false→(putE e k m).1.l=e.l∧(putE e k m).1.di=e.di):=by
   intro ho
   obtain ⟨s1,s2⟩:=r1 (by simpa using ho)
   rw [q3,q2,if_pos ho]
   unfold writtenE
   cases hd:m.di
   ·simp only [Bool.false_eq_true,if_false]
    exact ⟨s2 hd,fun h=>(by cases h),fun _=>⟨trivial,trivial⟩⟩
   ·simp only [if_true]
    exact ⟨s1 hd,fun _=>rfl,fun h=>by cases h⟩
  have hn:e.ow≠(k:Int)→(putE e k m).1.l=e.l∧(putE e k m).1.di=e.di:=by
   intro ho
   rw [q3,q2,if_neg ho];exact ⟨rfl,rfl⟩
  have fit1:=fit.1
  have fit2:=fit.2.1
  clear fit hp
  generalize (putE e k m).1=e' at *
  refine ⟨fit2,⟨?_,by rw [q7];omega,fun j hj h1=>?_,fun j _ h1=>?_⟩,?_,fun _ h1=>?_,fun h1=>?_,fun _ h1=>?_,fun h1=>?_,fun h1=>?_⟩
  ·rw [q4];split
   ·omega
   ·exact h.lo.1
  ·rw [q5,has_not,Bool.and_eq_true] at h1
   exact h.lo.2.2.1 j hj h1.1
  ·rw [q8,has_zero] at h1;cases h1
  ·intro j hj
   rw [q5,q8,has_zero,bOf_0 q6,has_not,has_bitN _ hkC,show ktOf e'=13 by unfold ktOf;rw [q6];rfl]
   by_cases hjk:j=k
   ·subst hjk
    rw [decide_eq_true rfl,if_pos rfl]
    have e1:decide (e'.ow=(j:Int))=false:=by
     rw [q4];split
     ·exact decide_eq_false (by omega)
     ·rename_i h2;simpa using h2
    rw [e1]
    simp only [and_true,if_pos (show m.kd≤3 by omega),Bool.not_true,Bool.and_false]
    exact r2 _ _ _ _ rfl
   ·rw [decide_eq_false (show ¬(k:Int)=(j:Int) by omega),if_neg (show ¬(m.kd≤3∧j=k) by simp [hjk])]
    simp only [Bool.false_eq_true,if_false,List.append_nil,Bool.not_false,Bool.and_true]
    have h2:=((hr j hj).anyKt 13).1
    by_cases ho:e.ow=(k:Int)
    ·rw [q4,if_pos ho,decide_eq_false (show ¬((-1:Int)=(j:Int)) by omega)]
     rw [decide_eq_false (by omega)] at h2
     exact h2.anyEl _
    ·rw [q4,if_neg ho,(hn ho).1]
     exact h2
  ·by_cases ho:e.ow=(k:Int)
   ·exact (hl ho).1
   ·rw [q4,if_neg ho] at h1
    rw [(hn ho).1];exact h.data hh h1
  ·exact absurd (fit1.symm.trans h1) (by decide)
  ·by_cases ho:e.ow=(k:Int)
   ·cases hd:m.di
    ·rw [((hl ho).2.2 hd).1]
     exact h.mem1 hh (by rw [←((hl ho).2.2 hd).2];exact h1)
    ·exact absurd (((hl ho).2.1 hd).symm.trans h1) (by decide)
   ·rw [(hn ho).1]
    exact h.mem1 hh (by rw [←(hn ho).2];exact h1)
  ·exact absurd (q6.symm.trans h1) (by decide)
  ·exact absurd (q6.symm.trans h1) (by decide)
 ·rw [show deedE e k m=cleanE e k m by simp [deedE,kd]] at fit ⊢
  refine ⟨_,_,rfl,tellOk4 hli 13 (by omega),fun j _ h1=>?_,?_⟩
  ·rw [has_bit,Bool.and_eq_true,decide_eq_true_eq] at h1;exact hown j h1.2
  ·refine h.waits h8 hh hb hk (kt:=13) (by rw [kd];rfl) (by omega) fit.2.1 hold_bit ?_ ?_ ?_ ?_ (fun h1=>by omega) (fun h1=>by omega)
   ·intro _ j _ h1;rw [has_bit,Bool.and_eq_true,decide_eq_true_eq] at h1;exact h1.2
   ·intro j hj;simp [hj]
   ·intro _;rw [if_neg (by omega)]
   ·intro h1;omega
 ·rw [show deedE e k m=wipeE e k m by simp [deedE,kd]] at fit ⊢
  refine ⟨_,_,rfl,tellOk4 hli 12 (by omega),fun j hj h1=>?_,?_⟩
  ·rcases (has_holders e hj).1 h1 with h2|h2
   ·exact h.lo.2.2.1 j hj h2
   ·exact hown j h2
  ·refine h.waits h8 hh hb hk (kt:=12) (by rw [kd];rfl) (by omega) fit.2.1 (fun j hj h1=>(has_holders e hj).1 h1) (fun h1=>by omega) ?_ ?_ ?_ (fun h1=>by omega) (fun h1=>by omega)
   ·intro j hj;simp [hj]
   ·intro _;rw [if_neg (by omega)]
   ·intro h1;omega
theorem LI.answered (h:LI co cur X e st l U N D) (h8:co≤8) {k:Nat} (hk:k<co) {m:Ms} (hm:answersB m.kd=true) (hg:mg m=true) {V:List Ms} (hN:N k=m::V):
 ∃(o:Mk) (a:Ms),(ansE e k m).2=0∧(ansE e k m).1.2=tellL o a∧TellOk m.li a∧(∀j:Nat,j<8→hasM o j=true→j<co)∧
  LI co cur X (ansE e k m).1.1 st l U (fun j=>if j=k then V else N j) (fun j=>D j++if hasM o j=true then [a] else []):=by
 have hkC:isC (k:Int)=true:=isC_cast (by omega)
 have hli:lineB m.li=true:=by simp only [mg,Bool.and_eq_true] at hg;exact hg.1.1.1.2
 have hrk:=h.rel k hk
 rw [hN] at hrk
 obtain ⟨w1,rfl,b1,os,r1,d1,d2,kk⟩:=hrk.answer
 have hh:=wait_here h.good w1
 obtain ⟨g1,g2⟩:=(good_here hh).1 h.good
 have harg:ansArg e (k:Int) m=true:=by simp [ansArg,h.good,hkC,hg,hm]
 obtain ⟨a1,a2,a3,a4,a5,a6⟩:=answered_parts e (k:Int) m
 obtain ⟨f1,f2,f3⟩:=answered_good (m:=m) h.good w1
 have fit:=ans_fit (m:=m) h.good w1
 have hl:(answeredE e (k:Int) m).l=cur∧((answeredE e (k:Int) m).di=false→X=(answeredE e (k:Int) m).l)∧(e.ow≠(k:Int)→(answeredE e (k:Int) m).l=e.l):=by
  have q:(answeredE e (k:Int) m).l=(writtenE e m).l∧(answeredE e (k:Int) m).di=(writtenE e m).di:=by
   have hw:∀x:En,(withoutE x k).l=x.l∧(withoutE x k).di=x.di:=by
    intro x;unfold withoutE;split<;>exact ⟨rfl,rfl⟩
   unfold answeredE
   dsimp only
   split
   ·exact hw _
   ·exact hw _
  rw [q.1,q.2]
  unfold writtenE
  by_cases ho:e.ow=(k:Int)
  ·obtain ⟨s1,s2⟩:=d1 (by simpa using ho)
   cases hd:m.di
   ·simp only [Bool.false_eq_true,if_false]
    exact ⟨s2 hd,fun h1=>h.mem1 hh h1,fun h1=>trivial⟩
   ·simp only [if_true]
    exact ⟨s1 hd,fun h1=>(by cases h1),fun h1=>absurd ho h1⟩
  ·have hd:=d2 (by simpa using ho)
   rw [hd]
   simp only [Bool.false_eq_true,if_false]
   refine ⟨?_,fun h1=>h.mem1 hh h1,fun _=>trivial⟩
   have hs:hasM e.sh (k:Int)=true:=by
    rw [decide_eq_false ho] at os;simpa using os
   refine h.data hh ?_
   rcases g1 with h1|⟨_,h1⟩
   ·exact h1
   ·rw [h1,has_zero] at hs;cases hs
 have hlo:Lo co (answeredE e (k:Int) m):=by
  refine ⟨by rw [f1];omega,by rw [a5];exact h.lo.2.1,fun j hj h1=>?_,fun j hj h1=>?_⟩
  ·rw [a3] at h1
   split at h1
   ·rw [has_or,Bool.or_eq_true,has_bitN _ hkC,decide_eq_true_eq,has_not,Bool.and_eq_true] at h1
    rcases h1 with h1|h1
    ·exact h.lo.2.2.1 j hj h1.1
    ·omega
   ·rw [has_not,Bool.and_eq_true] at h1
    exact h.lo.2.2.1 j hj h1.1
  ·rw [a6,has_not,Bool.and_eq_true] at h1
   exact h.lo.2.2.2 j hj h1.1
 have hkt:ktOf (answeredE e (k:Int) m)=ktOf e:=by unfold ktOf;rw [a4]
 have hbo:∀j:Nat,bOf (answeredE e (k:Int) m) j=bOf e j:=fun j=>by unfold bOf;rw [a4,a5]
 have hrel:∀j:Nat,j<co→Rel cur (answeredE e (k:Int) m).l (ktOf (answeredE e (k:Int) m)) (decide ((answeredE e (k:Int) m).ow=(j:Int))) (hasM (answeredE e (k:Int) m).sh j) (hasM (answeredE e (k:Int) m).wa j) (bOf (answeredE e (k:Int) m) j) (st j) (l j) (U j) ((fun j=>if j=k then [] else N j) j) (D j):=by
  intro j hj
  have e1:decide ((answeredE e (k:Int) m).ow=(j:Int))=false:=by rw [f1];exact decide_eq_false (by omega)
  rw [e1,hbo,hkt]
  by_cases hjk:j=k
  ·subst hjk
   have e2:hasM (answeredE e (j:Int) m).sh j=m.ke:=by
    rw [a3]
    cases m.ke
    ·simp only [Bool.false_eq_true,if_false]
     rw [has_not,has_bitN _ hkC];simp
    ·simp only [if_true]
     rw [has_or,has_bitN _ hkC];simp
   have e3:hasM (answeredE e (j:Int) m).wa j=false:=by
    rw [a6,has_not,has_bitN _ hkC];simp
   rw [e2,e3,b1]
   simp only [if_true]
   exact r1 _ _
  ·have e2:hasM (answeredE e (k:Int) m).sh j=hasM e.sh j:=by
    rw [a3]
    split
    ·rw [has_or,has_not,has_bitN _ hkC,decide_eq_false (by omega)];simp
    ·rw [has_not,has_bitN _ hkC,decide_eq_false (by omega)];simp
   have e3:hasM (answeredE e (k:Int) m).wa j=hasM e.wa j:=by
    rw [a6,has_not,has_bitN _ hkC,decide_eq_false (by omega)];simp
   rw [e2,e3]
   simp only [hjk,if_false]
   have h1:=h.rel j hj
   have e4:decide (e.ow=(j:Int))=false:=by
    rw [a2] at f1
    split at f1
    ·rename_i h2;exact decide_eq_false (by omega)
    ·rw [f1];exact decide_eq_false (by omega)
   rw [e4] at h1
   exact h1.anyEl _
 have hke:e.bu=2→m.ke=false:=fun hb=>kk (by unfold ktOf;rw [if_pos (.inl hb)])
 have hw2:e.bu=2→∀j:Nat,j<8→(hasM (answeredE e (k:Int) m).sh j=true∨(answeredE e (k:Int) m).ow=(j:Int))→(j:Int)≠e.by_→hasM (answeredE e (k:Int) m).wa j=true:=by
  intro hb j hj h1 h2
  rcases h1 with h1|h1
  ·rw [a3,hke hb] at h1
   simp only [Bool.false_eq_true,if_false] at h1
   rw [has_not,Bool.and_eq_true] at h1
   rw [a6,has_not,h.wait2 hb j hj (.inl h1.1) h2,h1.2];rfl
  ·rw [f1] at h1;omega
 unfold ansE
 rw [if_pos harg,if_pos w1]
 generalize answeredE e (k:Int) m=A at *
 have hhA:A.he=true:=a1.trans hh
 by_cases hw:A.wa≠0#8
 ·rw [if_pos hw] at fit ⊢
  refine ⟨0#8,ms4 11 m.li false false,rfl,rfl,tellOk4 hli 11 (by omega),fun j _ h1=>(by rw [has_zero] at h1;cases h1),?_⟩
  refine ⟨fit.2.1,hlo,fun j hj=>?_,fun _ _=>hl.1,fun h1=>?_,fun _=>hl.2.1,fun _ h1=>absurd f1 h1,fun hb=>?_⟩
  ·rw [has_zero]
   simp only [Bool.false_eq_true,if_false,List.append_nil]
   exact hrel j hj
  ·exact absurd (hhA.symm.trans h1) (by decide)
  ·rw [a5];exact hw2 (a4.symm.trans hb)
 ·have hw0:A.wa=0#8:=by simpa using hw
  rw [if_neg hw] at fit ⊢
  obtain ⟨p,hp,hby2⟩:=isC_nat f2.1
  have hpc:p<co:=by have:=hlo.2.1;omega
  have hoth:∀j:Nat,j<co→j≠p→Rel cur A.l (ktOf A) (decide (A.ow=(j:Int))) (hasM A.sh j) false 0 (st j) (l j) (U j) ((fun j=>if j=k then [] else N j) j) (D j):=by
   intro j hj hjp
   have h1:=hrel j hj
   rw [hw0,has_zero,bOf_ne (by omega)] at h1
   exact h1
  have hoB:∀j:Nat,hasM (bitM (p:Int)) (j:Int)=true→j<co:=fun j hj=>by rw [has_bitN _ (isC_cast hp),decide_eq_true_eq] at hj;omega
  have hrp:=hrel p hpc
  unfold settledE at fit ⊢
  by_cases hb1:A.bu=1
  ·rw [if_pos hb1] at fit ⊢
   rw [hby2] at fit ⊢
   rw [show bOf A p=1 by unfold bOf;rw [if_pos hby2,hb1];rfl] at hrp
   obtain ⟨_,_,_,r2⟩:=hrp.settleS
   refine ⟨_,_,rfl,rfl,tellOk5 hli 8 (by omega) _ _,fun j _ h1=>hoB j h1,?_⟩
   exact LI.shares (e:=overE A) h8 hhA rfl rfl rfl hpc fit.2.1 hl.1 hlo.2.2.1 hl.2.1 f1 (kt0:=ktOf A) hoth (fun a h1 h2=>r2 _ a h1 h2 _)
  ·rw [if_neg hb1] at fit ⊢
   by_cases hb2:A.bu=2
   ·rw [if_pos hb2] at fit ⊢
    rw [hby2] at fit ⊢
    rw [show bOf A p=2 by unfold bOf;rw [if_pos hby2,hb2];rfl] at hrp
    obtain ⟨_,_,r2⟩:=hrp.settleM
    refine ⟨_,_,rfl,rfl,tellOk5 hli 10 (by omega) _ _,fun j _ h1=>hoB j h1,?_⟩
    refine LI.owns (e:=overE A) h8 hhA rfl rfl rfl hpc fit.2.1 hl.1 hl.2.1 ?_ (kt0:=ktOf A) hoth (fun a h1 h2=>r2 _ a h1 h2 _ hl.1)
    intro j hj hjp
    have h1:=hw2 (a4.symm.trans hb2) j (by omega)
    rw [hw0,has_zero] at h1
    constructor
    ·cases h2:hasM (overE A).sh (j:Int)
     ·rfl
     ·exact absurd (h1 (.inl h2) (by rw [←a5];omega)) (by decide)
    ·show A.ow≠(j:Int)
     rw [f1];omega
   ·rw [if_neg hb2] at fit ⊢
    refine ⟨0#8,ms4 11 m.li false false,rfl,rfl,tellOk4 hli 11 (by omega),fun j _ h1=>(by rw [has_zero] at h1;cases h1),?_⟩
    refine ⟨fit.2.1,hlo,fun j hj=>?_,fun _ _=>hl.1,fun h1=>?_,fun _=>hl.2.1,fun _ h1=>absurd f1 h1,fun hb=>absurd hb hb2⟩
    ·rw [has_zero]
     simp only [Bool.false_eq_true,if_false,List.append_nil]
     exact hrel j hj
    ·exact absurd (hhA.symm.trans h1) (by decide)
end
end
section
theorem wideLine:Wide Tryz.prog 48 8:=⟨⟨_,Tryz.underlying48,by rfl⟩,by kernel_rfl⟩
theorem loadLine (x:Value):Instr.loadAt 48 x=loadS 48 8 x:=rfl
theorem storeLine (x y:Value):Instr.storeAt 48 x y=storeS 48 8 x y:=rfl
attribute [local go_sem ↓] append_appS copy_copS clear_clrS make_mkS cell_row frozen_row loadLine storeLine heap_drew heap_drewN heap_alloc heap_past heap_setCell heap_putRow
attribute [local go_sem] rowCell_some rowFrozen_some rowHas_some rowIn_some rowPart_full rowPut_full rowSet_some vs_size vs_one wideLine run_loadS run_storeS run_appS run_copS run_clrS run_mkS loadW_at storeW_at fit_all one_int one_bool one_pointer one_slice allOne_list putRow_new ne_size1 ne_size2
attribute [local simp ↓] heap_drew heap_drewN heap_alloc heap_past heap_setCell heap_putRow
attribute [local simp] rowCell_some rowFrozen_some rowHas_some rowIn_some rowPart_full rowPut_full rowSet_some vs_size fit_all putRow_new ne_size1 ne_size2
def Dev (w:World) (g b n v:Nat) (xs:List Int):Prop:=
 (∃r wr:Int,w.heap[g]? =some (.cells #[.slice (some ⟨b,0,none⟩) n n,.int .i64 v,.int .u64 r,.int .u64 wr] 146 (0,0)))∧
 w.heap[b]? =some (.cells (bk xs []) 48 (0,0))∧xs.length=n*8∧2≤n∧n≤64∧1≤v∧v<n∧g≠b
theorem Dev.keep {w w':World} {g b n v:Nat} {xs:List Int} {l:List Nat} (h:Dev w g b n v xs) (hc:Chg l w w') (hg:g∉l) (hb:b∉l):Dev w' g b n v xs:=by
 obtain ⟨⟨r,wr,h1⟩,h2,h3⟩:=h
 exact ⟨⟨r,wr,hc.keep h1 hg⟩,hc.keep h2 hb,h3⟩
theorem within_yes (n a b:Int) (w:World) (h0:a≤n) (h1:n≤b):Calls Tryz.prog 69 #[.int .i64 n,.int .i64 a,.int .i64 b] w fun e w'=>e=.returned (.bool true)∧w=w':=by
 go_enter Tryz.func69,Tryz.ntmps69
 go_wp2
 go_ret
 exact ⟨rfl,rfl⟩
theorem place_ok (g b n v:Nat) (i:Int) (xs:List Int) (w:World) (hd:Dev w g b n v xs) (h0:0≤i) (h1:i<n):
 Calls Tryz.prog 183 #[.pointer (some ⟨g,0,none⟩),.int .i64 i] w fun e w'=>e=.returned (.int .i64 0)∧w=w':=by
 obtain ⟨⟨r,wr,hg⟩,_,_,hn2,hn,_⟩:=hd
 go_enter Tryz.func183,Tryz.ntmps183
 go_wp2_with (go_at_call 69;refine (within_yes _ _ _ _ (by omega) (by omega)).mono ?_;rintro e w' ⟨rfl,rfl⟩)
 go_ret
 exact ⟨rfl,rfl⟩
theorem add_any (g o:Nat) (x:Int) (w:World) (c:Array Value) (T:TypeId) (hg:w.heap[g]? =some (.cells c T (0,0))) (hc:c[o]? =some (.int .u64 x)):
 Calls Tryz.prog 59 #[.pointer (some ⟨g,o,none⟩),.int .u64 1] w fun e w'=>e=.returned (.int .u64 (IntKind.u64.wrap (x+1)))∧w'=w.setCell ⟨g,o,none⟩ (.int .u64 (IntKind.u64.wrap (x+1))):=by
 have hadd:=run_call_add (P:=Tryz.prog) Tryz.func102 (by kernel_rfl) (by kernel_rfl) (by kernel_rfl) .u64 (by kernel_rfl) (a:=⟨g,o,none⟩) (x:=x) (y:=1) (s:=IntKind.u64.wrap (x+1)) (w:=w) (by rw [cell_row,hg,rowCell_some,hc]) (by rw [frozen_row,hg,rowFrozen_some]) (by simp [Op.intArith])
 clear hg hc
 go_enter Tryz.func59,Tryz.ntmps59
 go_wp2
 go_ret
 exact ⟨rfl,rfl⟩
theorem results_line2 {fn:Func} {p t:Tmp} (h:fn.results=#[.cell p 48,.tmp t]) (tmps:Array Value) (w:World) (b:Nat) (l:List Int) (fr:Nat×Nat)
 (hp:tmps.getD p undef=.pointer (some ⟨b,0,none⟩)) (hb:w.heap[b]? =some (.cells (vs l) 48 fr)) (hl:l.length=8) (x:Value) (hx:tmps.getD t undef=x):
 (results fn tmps).run Tryz.prog w=.ok (.tuple #[.agg (vs l),x]) w:=by
 subst hx
 have hp':tmps[p]?.getD undef=.pointer (some ⟨b,0,none⟩):=by simpa using hp
 have:=run_loadVar_row (P:=Tryz.prog) w b 48 48 (vs l) fr _ hb Tryz.underlying48 rfl (by rw [vs_size,hl];kernel_rfl)
 simp [results,h,hp',asAddr,this]
def zero8:List Int:=[0,0,0,0,0,0,0,0]
theorem zero8_length:zero8.length=8:=rfl
attribute [local go_sem] zero8_length
attribute [local simp] zero8_length
theorem read_ok (g b n v:Nat) (i:Nat) (xs:List Int) (w:World) (hd:Dev w g b n v xs) (h1:i<n):
 Calls Tryz.prog 153 #[.pointer (some ⟨g,0,none⟩),.int .i64 i] w fun e w'=>e=.returned (.tuple #[.agg (vs (ln xs i)),.int .i64 0])∧Chg [g] w w'∧Dev w' g b n v xs:=by
 have hd':=Lib.hid (hd.keep ((Chg.refl [] w).alloc (.cells (vs zero8) 48)) (by simp) (by simp))
 obtain ⟨⟨r,wr,hg⟩,hb,hx,hn2,hn,hv,hvn,hgb⟩:=hd
 have hf:Fit (i*8) 8 xs.length:=by rw [hx];unfold Fit;omega
 have H:=Lib.hid hx
 have hbg:b≠g:=fun e=>hgb e.symm
 have hgl:=old hg
 have hbl:=old hb
 have hl:=ln_length xs i hf
 have hi:(i:Int)<(n:Int):=by omega
 have hi0:(0:Int)≤(i:Int):=by omega
 have h64:(n:Int)≤64:=by omega
 have rp:=rowPart_bk hf [] 48 (0,0)
 have ri:=rowIn_bk hf [] 48 (0,0)
 clear hx hf
 go_enter Tryz.func153,Tryz.ntmps153
 go_wp2_with (first
  |(go_at_call 183;refine (place_ok g b n v _ xs _ hd'.out (by omega) (by omega)).mono ?_;rintro e w' ⟨rfl,rfl⟩)
  |(go_at_call 59;refine (add_any g 2 r _ #[.slice (some ⟨b,0,none⟩) n n,.int .i64 v,.int .u64 r,.int .u64 wr] 146 (by rw [heap_alloc,hg];rfl) rfl).mono ?_;rintro e w' ⟨rfl,rfl⟩))
 refine bodyPost_ret (v:=.tuple #[.agg (vs (ln xs i)),.int .i64 0]) ?_ (by rfl) ?_
 ·exact results_line2 (by rfl) _ _ w.heap.size (ln xs i) (0,0) (by rfl) (by simp [*]) hl _ (by rfl)
 refine ⟨rfl,?_,?_⟩
 ·exact (((Chg.refl _ _).alloc _).setCell _ _ _ (.inl (by simp))).putRow _ _ _ (.inr (by simp))
 ·exact ⟨⟨IntKind.u64.wrap (r+1),wr,by simp [*]⟩,by simp [*],H.out,hn2,hn,hv,hvn,hgb⟩
theorem write_ok (g b n v:Nat) (i:Nat) (l xs:List Int) (w:World) (hd:Dev w g b n v xs) (h1:i<n) (hl:l.length=8):
 Calls Tryz.prog 164 #[.pointer (some ⟨g,0,none⟩),.int .i64 i,.agg (vs l)] w fun e w'=>e=.returned (.int .i64 0)∧Chg [g,b] w w'∧Dev w' g b n v (lnPut xs i l):=by
 have hd':=Lib.hid (hd.keep ((Chg.refl [] w).alloc (.cells (vs l) 48)) (by simp) (by simp))
 obtain ⟨⟨r,wr,hg⟩,hb,hx,hn2,hn,hv,hvn,hgb⟩:=hd
 have hf:Fit (i*8) 8 xs.length:=by rw [hx];unfold Fit;omega
 have H:=Lib.hid hx
 have HL:=Lib.hid (lnPut_length xs i l hf hl)
 have hbg:b≠g:=fun e=>hgb e.symm
 have hgl:=old hg
 have hbl:=old hb
 have hi:(i:Int)<(n:Int):=by omega
 have hi0:(0:Int)≤(i:Int):=by omega
 have h64:(n:Int)≤64:=by omega
 have rp:=rowPut_bk (xs:=xs) (l:=l) (i:=i) (by rw [hl];exact hf) [] 48 (0,0)
 have ri:=rowHas_bk (xs:=xs) (i:=i) hf [] 48
 clear hx hf
 go_enter Tryz.func164,Tryz.ntmps164
 go_wp2_with (first
  |(go_at_call 183;refine (place_ok g b n v _ xs _ hd'.out (by omega) (by omega)).mono ?_;rintro e w' ⟨rfl,rfl⟩)
  |(go_at_call 59;refine (add_any g 3 wr _ #[.slice (some ⟨b,0,none⟩) n n,.int .i64 v,.int .u64 r,.int .u64 wr] 146 (by rw [heap_alloc,hg];rfl) rfl).mono ?_;rintro e w' ⟨rfl,rfl⟩))
 go_region
 all_goals
  go_wp2
  go_ret
  refine ⟨rfl,?_,?_⟩
  ·exact ((((Chg.refl _ _).alloc _).setCell _ _ _ (.inl (by simp))).drew).putRow _ _ _ (.inl (by simp))
  ·exact ⟨⟨r,IntKind.u64.wrap (wr+1),by simp [*]⟩,by simp [*],HL.out.trans H.out,hn2,hn,hv,hvn,hgb⟩
theorem line_info:(Tryz.prog.info? 48).map (fun i=>(i.zero,i.size,i.bytes))=some (some (.agg (vs zero8)),8,64):=by kernel_rfl
theorem lines_nil (w:World) (a:Option Addr) (n c n' c':Nat):(binOp .eql 72 (.slice a n c) (.slice none n' c')).run Tryz.prog w=.ok (.bool a.isNone) w:=Lib.run_eql_slice_nil w _ _ a n c n' c' Tryz.underlying72
attribute [local go_sem] lines_nil
theorem clone_ok (A:Option Addr) (n c:Nat) (xs:List Value) (w:World) (h:Sl w 8 A n xs) (h0:0<n) (hn:n*64≤140737488355328):
 Calls Tryz.prog 119 #[.slice A n c] w fun e w'=>∃g cap r,e=.returned (.slice (some ⟨g,0,none⟩) n cap)∧w'.heap[g]? =some (.cells (xs++r).toArray 48 (0,0))∧w.heap.size≤g∧n≤cap∧Chg [] w w':=by
 obtain ⟨i0,hi0,hz0,hz1,hz2⟩:=info_parts line_info
 obtain ⟨b,o,rfl⟩:=h.addr h0
 have hcl:=run_clone (P:=Tryz.prog) (t:=72) (ty:=72) Tryz.underlying72 hi0 hz0 (w.alloc (.cells #[] 48)) ⟨w.heap.size,0,none⟩ (some ⟨b,o,none⟩) n c xs (by rw [hz1];exact h.chg ((Chg.refl [] w).alloc _) (by simp)) h0 (by simp only [maxLen];omega) (by rw [hz2];exact hn)
 have hge:=grownCap_ge (w.alloc (.cells #[] 48)) n 0 48
 generalize grownCap (w.alloc (.cells #[] 48)) n 0 48=cap at hcl hge
 generalize (Builtin.zeroCells (Value.agg (vs zero8)).cells (cap-n)).toList=r at hcl
 clear h h0 hn hz0 hz1 hz2 hi0
 go_enter Tryz.func119,Tryz.ntmps119
 go_wp2
 go_ret
 exact ⟨w.heap.size+1,cap,r,rfl,by simp,by omega,hge,(((Chg.refl _ _).alloc _).drew).alloc _⟩
theorem Dev.sl {w:World} {g b n v:Nat} {xs:List Int} (h:Dev w g b n v xs):Sl w 8 (some ⟨b,0,none⟩) n (xs.map (Value.int .u64)):=Sl.of_bk h.2.1 h.2.2.1
def OwnLines (w0:World) (n:Nat) (xs:List Int) (e:Ending) (w':World):Prop:=
 ∃g cap r,e=.returned (.slice (some ⟨g,0,none⟩) n cap)∧w'.heap[g]? =some (.cells (bk xs r) 48 (0,0))∧w0.heap.size≤g∧n≤cap∧Chg [] w0 w'
theorem image_ok (g b n v:Nat) (xs:List Int) (w:World) (hd:Dev w g b n v xs):Calls Tryz.prog 70 #[.pointer (some ⟨g,0,none⟩)] w (OwnLines w n xs):=by
 have hs:=Lib.hid hd.sl
 obtain ⟨⟨r,wr,hg⟩,hb,hx,hn2,hn,hv,hvn,hgb⟩:=hd
 clear hb hx
 go_enter Tryz.func70,Tryz.ntmps70
 go_wp2_with (go_at_call 119;refine (clone_ok _ n _ (xs.map (Value.int .u64)) _ hs.out (by omega) (by omega)).mono ?_;rintro e w' ⟨g',cap,r',rfl,h1,h2,h3,h4⟩)
 go_ret
 exact ⟨g',cap,r',rfl,h1,h2,h3,h4⟩
end
section
attribute [local go_sem ↓] append_appS copy_copS clear_clrS make_mkS cell_row frozen_row loadLine storeLine heap_drew heap_drewN heap_alloc heap_past heap_setCell heap_putRow
attribute [local go_sem] rowCell_some rowFrozen_some rowHas_some rowIn_some rowPart_full rowPut_full rowSet_some vs_size vs_one wideLine run_loadS run_storeS run_appS run_copS run_clrS run_mkS loadW_at storeW_at fit_all one_int one_bool one_pointer one_slice allOne_list putRow_new ne_size1 ne_size2 zero8_length lines_nil
attribute [local simp ↓] heap_drew heap_drewN heap_alloc heap_past heap_setCell heap_putRow
attribute [local simp] rowCell_some rowFrozen_some rowHas_some rowIn_some rowPart_full rowPut_full rowSet_some vs_size fit_all putRow_new ne_size1 ne_size2 zero8_length
theorem run_make_lines (w:World) (n:Nat) (hn:n≤64):mkR Tryz.prog 72 (.int .i64 n) (.int .i64 n) w=.ok (.slice (some ⟨w.heap.size,0,none⟩) n n) (w.alloc (.cells (bk (List.replicate (n*8) 0) []) 48)):=by
 obtain ⟨i0,hi0,hz0,hz1,hz2⟩:=info_parts line_info
 have:=run_make (P:=Tryz.prog) w 72 48 i0 _ Tryz.underlying72 hi0 hz0 .i64 .i64 n n (by omega) (by omega) (by rw [hz2];omega) (by omega)
 simp only [Int.toNat_natCast,hz1] at this
 rw [←made_made]
 exact this
def MadeDev (w0:World) (n v:Nat) (e:Ending) (w':World):Prop:=
 e=.returned (.tuple #[.pointer (some ⟨w0.heap.size+1,0,none⟩),.int .i64 0])∧Chg [] w0 w'∧Dev w' (w0.heap.size+1) w0.heap.size n v (List.replicate (n*8) 0)∧w'.heap.size=w0.heap.size+2
theorem new_ok (n v:Nat) (w:World) (h1:2≤n) (h2:n≤64) (h3:1≤v) (h4:v<n):Calls Tryz.prog 32 #[.int .i64 n,.int .i64 v] w (MadeDev w n v):=by
 have hmk:=run_make_lines w n h2
 have g1:(2:Int)≤(n:Int):=by omega
 have g2:(n:Int)≤64:=by omega
 go_enter Tryz.func32,Tryz.ntmps32
 go_wp2_with (go_at_call 69;refine (within_yes _ _ _ _ (by omega) (by omega)).mono ?_;rintro e w' ⟨rfl,rfl⟩)
 go_ret2
 refine ⟨rfl,((Chg.refl _ _).alloc _).alloc _,⟨⟨0,0,?_⟩,?_,by simp,h1,h2,h3,h4,by omega⟩,by simp⟩
 ·simp
 ·simp
end
section
attribute [local go_sem ↓] append_appS copy_copS clear_clrS make_mkS cell_row frozen_row loadLine storeLine heap_drew heap_drewN heap_alloc heap_past heap_setCell heap_putRow
attribute [local go_sem] rowCell_some rowFrozen_some rowHas_some rowIn_some rowPart_full rowPut_full rowSet_some vs_size vs_one wideLine run_loadS run_storeS run_appS run_copS run_clrS run_mkS loadW_at storeW_at fit_all one_int one_bool one_pointer one_slice allOne_list putRow_new ne_size1 ne_size2 zero8_length lines_nil
attribute [local simp ↓] heap_drew heap_drewN heap_alloc heap_past heap_setCell heap_putRow
attribute [local simp] rowCell_some rowFrozen_some rowHas_some rowIn_some rowPart_full rowPut_full rowSet_some vs_size fit_all putRow_new ne_size1 ne_size2 zero8_length
theorem line_eq (a b:List Int) (ha:a.length=8) (hb:b.length=8) (w:World):(Op.equalIn 10000 48 (.agg (vs a)) (.agg (vs b))).run Tryz.prog w=.ok (a==b) w:=by
 obtain ⟨i0,hi0⟩:∃i,Tryz.prog.info? 43=some i:=Option.isSome_iff_exists.1 (by kernel_rfl)
 exact eq_ints_array w (k:=.u64) Tryz.underlying48 hi0 Tryz.underlying43 (by kernel_rfl) a b ha hb
attribute [local go_sem] line_eq lit8
end
section
set_option maxHeartbeats 1000000
theorem wideMsg:Wide Tryz.prog 50 12:=⟨⟨_,Tryz.underlying50,by rfl⟩,by kernel_rfl⟩
theorem loadMsg (x:Value):Instr.loadAt 50 x=loadS 50 12 x:=rfl
theorem storeMsg (x y:Value):Instr.storeAt 50 x y=storeS 50 12 x y:=rfl
theorem wideHas:Wide Tryz.prog 239 3:=⟨⟨_,Tryz.underlying239,by rfl⟩,by kernel_rfl⟩
theorem loadHas (x:Value):Instr.loadAt 239 x=loadS 239 3 x:=rfl
theorem storeHas (x y:Value):Instr.storeAt 239 x y=storeS 239 3 x y:=rfl
attribute [local go_sem ↓] append_appS copy_copS clear_clrS make_mkS slice_slS cell_row frozen_row loadLine storeLine loadMsg storeMsg loadHas storeHas heap_drew heap_drewN heap_alloc heap_past heap_setCell heap_putRow msc_kd msc_li msc_di msc_ke
attribute [local go_sem] rowCell_some rowFrozen_some rowHas_some rowIn_some rowPart_full rowPut_full rowSet_some vs_size vs_one wideLine wideMsg wideHas run_loadS run_storeS run_appS run_copS run_clrS run_mkS run_slS loadW_at storeW_at fit_all fit_le one_int one_bool one_pointer one_slice allOne_list putRow_new ne_size1 ne_size2 zero8_length line_eq lit8 msc_size msc_one msc_part fold_msc
attribute [local simp ↓] heap_drew heap_drewN heap_alloc heap_past heap_setCell heap_putRow
attribute [local simp] rowCell_some rowFrozen_some rowHas_some rowIn_some rowPart_full rowPut_full rowSet_some vs_size fit_all putRow_new ne_size1 ne_size2 zero8_length msc_size
theorem mwithin_any (n a b:Int) (w:World):Calls Tryz.prog 147 #[.int .i64 n,.int .i64 a,.int .i64 b] w fun e w'=>e=.returned (.bool (decide (a≤n)&&decide (n≤b)))∧w=w':=by
 by_cases h:a≤n
 ·have t1:decide (a≤n)=true:=by simpa using h
  rw [t1]
  clear h
  go_enter Tryz.func147,Tryz.ntmps147
  go_wp2
  go_ret
  exact ⟨by simp,rfl⟩
 ·have t1:decide (a≤n)=false:=by simpa using h
  rw [t1]
  clear h
  go_enter Tryz.func147,Tryz.ntmps147
  go_wp2
  go_ret
  exact ⟨by simp,rfl⟩
theorem asks_any (k:Int) (w:World):Calls Tryz.prog 97 #[.int .i64 k] w fun e w'=>e=.returned (.bool (asksB k))∧w=w':=by
 go_enter Tryz.func97,Tryz.ntmps97
 go_wp2_with (go_at_call 147;refine (mwithin_any _ _ _ _).mono ?_;rintro e w' ⟨rfl,rfl⟩)
 go_ret
 exact ⟨rfl,rfl⟩
theorem answers_any (k:Int) (w:World):Calls Tryz.prog 109 #[.int .i64 k] w fun e w'=>e=.returned (.bool (answersB k))∧w=w':=by
 go_enter Tryz.func109,Tryz.ntmps109
 go_wp2_with (go_at_call 147;refine (mwithin_any _ _ _ _).mono ?_;rintro e w' ⟨rfl,rfl⟩)
 go_ret
 exact ⟨rfl,rfl⟩
theorem tells_any (k:Int) (w:World):Calls Tryz.prog 103 #[.int .i64 k] w fun e w'=>e=.returned (.bool (tellsB k))∧w=w':=by
 go_enter Tryz.func103,Tryz.ntmps103
 go_wp2_with (go_at_call 147;refine (mwithin_any _ _ _ _).mono ?_;rintro e w' ⟨rfl,rfl⟩)
 go_ret
 exact ⟨rfl,rfl⟩
theorem mgood_kind (m:Ms) (w:World) (h:kindB m.kd=false):Calls Tryz.prog 96 #[.agg (msc m)] w fun e w'=>e=.returned (.bool (mg m))∧Chg [] w w':=by
 rw [show mg m=false by simp [mg,h]]
 go_enter Tryz.func96,Tryz.ntmps96
 try dsimp only [List.append]
 go_wp2_with (go_at_call 147;refine (mwithin_any _ _ _ _).mono ?_;rintro e w' ⟨rfl,rfl⟩;rw [show (decide (1≤m.kd)&&decide (m.kd≤14))=false from h])
 go_ret
 exact ⟨rfl,(Chg.refl _ _).alloc _⟩
theorem mgood_line (m:Ms) (w:World) (h1:kindB m.kd=true) (h:lineB m.li=false):Calls Tryz.prog 96 #[.agg (msc m)] w fun e w'=>e=.returned (.bool (mg m))∧Chg [] w w':=by
 rw [show mg m=false by simp [mg,h]]
 go_enter Tryz.func96,Tryz.ntmps96
 try dsimp only [List.append]
 go_wp2_with (go_at_call 147;refine (mwithin_any _ _ _ _).mono ?_;rintro e w' ⟨rfl,rfl⟩;(try rw [show (decide (1≤m.kd)&&decide (m.kd≤14))=true from h1]);(try rw [show (decide (0≤m.li)&&decide (m.li≤63))=false from h]))
 go_ret
 exact ⟨rfl,(Chg.refl _ _).alloc _⟩
end
end Go.Proofs.YtcjoinhngdfdmaaGreatDoor
