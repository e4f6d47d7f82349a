/- Texts of the walk, one behind the other: Prc Prd Pre Prf. No condition. -/
import Derived.Test.YtadeoflkppiflaaGreatDoorSaa
import Derived.Test.YtadeoflkppiflaaGreatDoorSaj
import Derived.Test.YtadeoflkppiflaaGreatDoorSam
namespace Go.Proofs.YtadeoflkppiflaaGreatDoor
open Go.RowKit
set_option linter.unusedVariables false
set_option maxHeartbeats 1000000
section
def ktOf (e:En):Int:=if e.bu=2∨e.bu=5 then 12 else 13
theorem ktOf_or (e:En):ktOf e=12∨ktOf e=13:=by unfold ktOf;split<;>simp
def bOf (e:En) (k:Nat):Nat:=if e.by_=(k:Int) then (if e.bu=1 then 1 else if e.bu=2 then 2 else 0) else 0
def Lo (n:Nat) (e:En):Prop:=e.ow<n∧e.by_<n∧(∀k:Nat,k<8→hasM e.sh k=true→k<n)∧∀k:Nat,k<8→hasM e.wa k=true→k<n
structure LI (co:Nat) (cur X:List Int) (e:En) (st:Nat→Nat) (l:Nat→List Int) (U N D:Nat→List Ms):Prop where
 good:Xz e=true
 lo:Lo co e
 rel:∀j:Nat,j<co→Rel cur e.l (ktOf e) (decide (e.ow=(j:Int))) (hasM e.sh j) (hasM e.wa j) (bOf e j) (st j) (l j) (U j) (N j) (D j)
 data:e.he=true→e.ow= -1→e.l=cur
 mem0:e.he=false→X=cur
 mem1:e.he=true→e.di=false→X=e.l
 wait1:e.bu=1→e.ow≠ -1→hasM e.wa e.ow=true
 wait2:e.bu=2→∀j:Nat,j<8→(hasM e.sh j=true∨e.ow=(j:Int))→(j:Int)≠e.by_→hasM e.wa j=true
def Qa4 (e:En) (l:List Int) (h:l.length=8):En:=if e.he=true then e else (e.setHe true).setL l h
def Qdc (li:Int) (a:Ms):Prop:=mg a=true∧Z1 a.kd=true∧a.li=li∧a.kd≠14
theorem Qdd {li:Int} (h:JT li=true) (kt:Int) (hk:kt=11∨kt=12∨kt=13):Qdc li (ms4 kt li false false):=by
 refine ⟨?_,?_,rfl,by show kt≠14;omega⟩
 ·rcases hk with rfl|rfl|rfl<;>simp [mg,ms4,Qak,h]
 ·rcases hk with rfl|rfl|rfl<;>rfl
theorem Qf5 {li:Int} (h:JT li=true) (kt:Int) (hk:kt=8∨kt=9∨kt=10) (l:List Int) (hl:l.length=8):Qdc li (ms5 kt li l hl):=by
 refine ⟨?_,?_,rfl,by show kt≠14;omega⟩
 ·rcases hk with rfl|rfl|rfl<;>simp [mg,ms5,Qak,mayW,h]
 ·rcases hk with rfl|rfl|rfl<;>rfl
theorem bOf_0 {e:En} (h:e.bu=0) (k:Nat):bOf e k=0:=by unfold bOf;rw [h];simp
theorem bOf_ne {e:En} {k:Nat} (h:e.by_≠(k:Int)):bOf e k=0:=by unfold bOf;rw [if_neg h]
theorem bOf_fl {e:En} (k:Nat) (h:e.bu=4∨e.bu=5):bOf e k=0:=by unfold bOf;rcases h with h|h<;>rw [h]<;>simp
theorem Yd (c:Int) (hc:isC c=true) (j:Nat):hasM (bitM c) (j:Int)=decide (c=(j:Int)):=by rw [Qch,hc,Bool.true_and]
section
variable {co:Nat} {cur X:List Int} {e:En} {st:Nat→Nat} {l:Nat→List Int} {U N D:Nat→List Ms}
theorem LI.free (h:LI co cur X e st l U N D) (hh:e.he=true) (hb:e.bu=0):Gp e∧e.by_=0∧e.wa=0#8∧∀j:Nat,j<co→Rel cur e.l (ktOf e) (decide (e.ow=(j:Int))) (hasM e.sh j) false 0 (st j) (l j) (U j) (N j) (D j):=by
 obtain ⟨h1,_,h2,h3⟩:=busy0 hh h.good hb
 refine ⟨h1,h2,h3,fun j hj=>?_⟩
 have:=h.rel j hj
 rw [h3,Xa,bOf_0 hb] at this
 exact this
theorem LI.here (h:LI co cur X e st l U N D) (hX:X.length=8):LI co cur X (Qa4 e X hX) st l U N D∧(Qa4 e X hX).he=true∧(Qa4 e X hX).bu=e.bu:=by
 unfold Qa4
 by_cases hh:e.he=true
 ·rw [if_pos hh];exact ⟨h,hh,rfl⟩
 ·rw [if_neg hh]
  have hh':e.he=false:=by simpa using hh
  have he:e=enE:=by
   have:=h.good
   unfold Xz at this
   rw [if_neg hh] at this
   simpa using this
  have hc:=h.mem0 hh'
  have hr:=h.rel
  subst he
  refine ⟨⟨by simp [Xz,Qav,Jm,En.setHe,En.setL,enE],h.lo,?_,fun _ _=>hc,fun h1=>absurd (show true=false from h1) (by decide),fun _ _=>rfl,fun h1=>absurd (show (0:Int)=1 from h1) (by decide),fun h1=>absurd (show (0:Int)=2 from h1) (by decide)⟩,rfl,rfl⟩
  intro j hj
  have h1:=hr j hj
  have e1:decide (((enE.setHe true).setL X hX).ow=(j:Int))=false:=by
   show decide ((-1:Int)=(j:Int))=false
   exact decide_eq_false (by omega)
  have e2:decide (enE.ow=(j:Int))=false:=e1
  rw [e2] at h1
  rw [e1]
  exact h1.anyEl _
theorem LI.waits (h:LI co cur X e st l U N D) (h8:co≤8) (hh:e.he=true) (hb:e.bu=0) {k:Nat} (hk:k<co) {m:Ms} {kt:Int} {o:Mk} (hkt:kt=if m.kd=2∨m.kd=5 then 12 else 13) (hkd:m.kd=1∨m.kd=2∨m.kd=4∨m.kd=5)
 (hg:Xz (Y4 e k m o kt).1=true) (ho:∀j:Nat,j<8→hasM o j=true→hasM e.sh j=true∨e.ow=(j:Int)) (h13:kt=13→∀j:Nat,j<8→hasM o j=true→e.ow=(j:Int))
 {U':Nat→List Ms} (hU:∀j,j≠k→U' j=U j) (hU2:m.kd=4∨m.kd=5→U' k=U k) (hR:m.kd=1∨m.kd=2→hasM o k=false∧Rel cur e.l kt (decide (e.ow=(k:Int))) (hasM e.sh k) false m.kd.toNat (st k) (l k) (U' k) (N k) (D k))
 (w1:m.kd=1→e.ow≠ -1→hasM o e.ow=true) (w2:m.kd=2→∀j:Nat,j<8→(hasM e.sh j=true∨e.ow=(j:Int))→(j:Int)≠k→hasM o j=true):
 LI co cur X (Y4 e k m o kt).1 st l U' N (fun j=>D j++if hasM o j=true then [ms4 kt m.li false false] else []):=by
 obtain ⟨g1,g2,g3,hr⟩:=h.free hh hb
 refine ⟨hg,⟨h.lo.1,by show (k:Int)<co;omega,h.lo.2.2.1,?_⟩,?_,h.data,h.mem0,h.mem1,w1,w2⟩
 ·intro j hj h1
  rcases ho j hj h1 with h2|h2
  ·exact h.lo.2.2.1 j hj h2
  ·have:=h.lo.1;omega
 ·intro j hj
  have hkt':ktOf (Y4 e k m o kt).1=kt:=by rw [hkt];rfl
  rw [hkt']
  show Rel cur e.l kt (decide (e.ow=(j:Int))) (hasM e.sh j) (hasM o j) (bOf (Y4 e k m o kt).1 j) (st j) (l j) (U' j) (N j) (D j++if hasM o j=true then [ms4 kt m.li false false] else [])
  have hby:(Y4 e k m o kt).1.by_=(k:Int):=rfl
  have hbu:(Y4 e k m o kt).1.bu=m.kd:=rfl
  by_cases hjk:j=k
  ·subst hjk
   by_cases hf:m.kd=4∨m.kd=5
   ·rw [hU2 hf,bOf_fl j (by rw [hbu];exact hf)]
    exact Tz95
   ·have h12:m.kd=1∨m.kd=2:=by omega
    obtain ⟨a,b⟩:=hR h12
    rw [a]
    simp only [Bool.false_eq_true,if_false,List.append_nil]
    have:bOf (Y4 e j m o kt).1 j=m.kd.toNat:=by
     unfold bOf
     rw [if_pos hby,hbu]
     rcases h12 with h|h<;>rw [h]<;>rfl
    rw [this]
    exact b
  ·rw [hU j hjk,bOf_ne (by rw [hby];omega)]
   exact Tz95
theorem LI.owns {kt0:Int} (h8:co≤8) (hh:e.he=true) (hb:e.bu=0) (hby:e.by_=0) (hw:e.wa=0#8) {k:Nat} (hk:k<co) {kd li:Int} (hg:Xz (YA e k kd li).1=true) (hc:e.l=cur)
 (hm1:e.di=false→X=e.l) (hn:∀j:Nat,j<co→j≠k→hasM e.sh j=false∧e.ow≠(j:Int)) {U':Nat→List Ms} (hr:∀j:Nat,j<co→j≠k→Rel cur e.l kt0 (decide (e.ow=(j:Int))) (hasM e.sh j) false 0 (st j) (l j) (U' j) (N j) (D j))
 (hR:∀a:Ms,a.kd=kd→a.l=cur→Rel cur e.l 13 true false false 0 (st k) (l k) (U' k) (N k) (D k++[a])):
 LI co cur X (YA e k kd li).1 st l U' N (fun j=>D j++if hasM (bitM (k:Int)) j=true then [ms5 kd li e.l e.h] else []):=by
 have hbu:(YA e k kd li).1.bu=0:=hb
 refine ⟨hg,⟨by show (k:Int)<co;omega,by show e.by_<co;omega,fun j _ h1=>?_,fun j _ h1=>?_⟩,?_,fun _ h1=>?_,fun h1=>?_,fun _=>hm1,fun h1=>?_,fun h1=>?_⟩
 ·have h2:hasM 0#8 (j:Int)=true:=h1
  rw [Xa] at h2;cases h2
 ·have h2:hasM e.wa (j:Int)=true:=h1
  rw [hw,Xa] at h2;cases h2
 ·intro j hj
  show Rel cur e.l (ktOf (YA e k kd li).1) (decide ((k:Int)=(j:Int))) (hasM 0#8 j) (hasM e.wa j) (bOf (YA e k kd li).1 j) (st j) (l j) (U' j) (N j) (D j++if hasM (bitM (k:Int)) j=true then [ms5 kd li e.l e.h] else [])
  rw [bOf_0 hbu,hw,Xa,Yd _ (Qas (by omega)),show ktOf (YA e k kd li).1=13 by unfold ktOf;rw [hbu];rfl]
  by_cases hjk:j=k
  ·subst hjk
   rw [decide_eq_true rfl,if_pos rfl]
   exact hR _ rfl hc
  ·rw [decide_eq_false (by omega)]
   simp only [Bool.false_eq_true,if_false,List.append_nil]
   have h1:=hr j hj hjk
   obtain ⟨h2,h3⟩:=hn j hj hjk
   rw [h2,decide_eq_false h3] at h1
   obtain ⟨_,h4,h5⟩:=h1.none cur e.l 13
   rw [h4];exact h5
 ·have h2:(k:Int)= -1:=h1
  omega
 ·exact absurd (hh.symm.trans h1) (by decide)
 ·exact absurd (hbu.symm.trans h1) (by decide)
 ·exact absurd (hbu.symm.trans h1) (by decide)
theorem LI.shares {kt0:Int} (h8:co≤8) (hh:e.he=true) (hb:e.bu=0) (hby:e.by_=0) (hw:e.wa=0#8) {k:Nat} (hk:k<co) {li:Int} (hg:Xz (Yp e k li).1=true) (hc:e.l=cur) (hlo:∀j:Nat,j<8→hasM e.sh j=true→j<co)
 (hm1:e.di=false→X=e.l) (hn:e.ow= -1) {U':Nat→List Ms} (hr:∀j:Nat,j<co→j≠k→Rel cur e.l kt0 (decide (e.ow=(j:Int))) (hasM e.sh j) false 0 (st j) (l j) (U' j) (N j) (D j))
 (hR:∀a:Ms,a.kd=8→a.l=cur→Rel cur e.l 13 false true false 0 (st k) (l k) (U' k) (N k) (D k++[a])):
 LI co cur X (Yp e k li).1 st l U' N (fun j=>D j++if hasM (bitM (k:Int)) j=true then [ms5 8 li e.l e.h] else []):=by
 have hbu:(Yp e k li).1.bu=0:=hb
 have hkC:isC (k:Int)=true:=Qas (by omega)
 refine ⟨hg,⟨by show e.ow<co;omega,by show e.by_<co;omega,fun j hj h1=>?_,fun j _ h1=>?_⟩,?_,fun _ _=>hc,fun h1=>?_,fun _=>hm1,fun h1=>?_,fun h1=>?_⟩
 ·have h2:hasM (e.sh|||bitM (k:Int)) (j:Int)=true:=h1
  rw [Qff,Yd _ hkC,Bool.or_eq_true,decide_eq_true_eq] at h2
  rcases h2 with h2|h2
  ·exact hlo j hj h2
  ·omega
 ·have h2:hasM e.wa (j:Int)=true:=h1
  rw [hw,Xa] at h2;cases h2
 ·intro j hj
  show Rel cur e.l (ktOf (Yp e k li).1) (decide (e.ow=(j:Int))) (hasM (e.sh|||bitM (k:Int)) j) (hasM e.wa j) (bOf (Yp e k li).1 j) (st j) (l j) (U' j) (N j) (D j++if hasM (bitM (k:Int)) j=true then [ms5 8 li e.l e.h] else [])
  rw [bOf_0 hbu,hw,Xa,Qff,Yd _ hkC,show ktOf (Yp e k li).1=13 by unfold ktOf;rw [hbu];rfl]
  by_cases hjk:j=k
  ·subst hjk
   rw [decide_eq_true rfl,if_pos rfl,Bool.or_true,decide_eq_false (by omega)]
   exact hR _ rfl hc
  ·rw [decide_eq_false (show ¬(k:Int)=(j:Int) by omega),Bool.or_false]
   simp only [Bool.false_eq_true,if_false,List.append_nil]
   exact ((hr j hj hjk).anyKt 13).1
 ·exact absurd (hh.symm.trans h1) (by decide)
 ·exact absurd (hbu.symm.trans h1) (by decide)
 ·exact absurd (hbu.symm.trans h1) (by decide)
theorem LI.deed (h:LI co cur X e st l U N D) (h8:co≤8) (hh:e.he=true) (hb:e.bu=0) {k:Nat} (hk:k<co) {m:Ms} (hm:Yc m.kd=true) (hli:JT m.li=true) {V:List Ms} (hU:m.kd≤3→U k=m::V):
 ∃(o:Mk) (a:Ms),(XX e k m).2=Xf o a∧Qdc m.li a∧(∀j:Nat,j<8→hasM o j=true→j<co)∧
  LI co cur X (XX e k m).1 st l (fun j=>if m.kd≤3∧j=k then V else U j) N (fun j=>D j++if hasM o j=true then [a] else []):=by
 obtain ⟨g1,g2,g3,hr⟩:=h.free hh hb
 have hkC:isC (k:Int)=true:=Qas (by omega)
 have fit:=ask_fit h.good hh hb hkC hm
 have hkk:m.kd=1∨m.kd=2∨m.kd=3∨m.kd=4∨m.kd=5:=by simp [Yc] at hm;omega
 have hown:∀j:Nat,e.ow=(j:Int)→j<co:=fun j hj=>by have:=h.lo.1;omega
 have hoB:∀j:Nat,hasM (bitM (k:Int)) (j:Int)=true→j<co:=fun j hj=>by rw [Yd _ hkC,decide_eq_true_eq] at hj;omega
 rcases hkk with kd|kd|kd|kd|kd
 ·rw [show XX e k m=Qal e k m by simp [XX,kd]] at fit ⊢
  have hUk:=hU (by omega)
  have hrk:=hr k hk
  rw [hUk] at hrk
  obtain ⟨n1,n2,r1,r2,r3⟩:=hrk.getS kd
  have n1':e.ow≠(k:Int):=by simpa using n1
  unfold Qal at fit ⊢
  by_cases hc:e.ow≠ -1∧e.ow≠k
  ·rw [if_pos hc] at fit ⊢
   have hoC:isC e.ow=true:=by
    rcases g1 with h1|h1
    ·exact absurd h1 hc.1
    ·exact h1.1
   refine ⟨_,_,rfl,Qdd hli 13 (by omega),fun j _ h1=>?_,?_⟩
   ·rw [Yd _ hoC,decide_eq_true_eq] at h1;exact hown j h1
   ·refine h.waits h8 hh hb hk (kt:=13) (by rw [kd];rfl) (.inl kd) fit.2.1 Qfv ?_ ?_ ?_ ?_ (fun _ _=>has_self hoC) (fun h1=>by omega)
    ·intro _ j _ h1;rw [Yd _ hoC,decide_eq_true_eq] at h1;exact h1
    ·intro j hj;simp [hj]
    ·intro h1;omega
    ·intro _
     refine ⟨by rw [Yd _ hoC];simpa using hc.2,?_⟩
     simp only [and_true,if_pos (show m.kd≤3 by omega)]
     rw [n1,n2,kd]
     exact r1 _ _
  ·rw [if_neg hc] at fit ⊢
   have hone:e.ow= -1:=by
    by_cases h1:e.ow= -1
    ·exact h1
    ·exact absurd ⟨h1,n1'⟩ hc
   by_cases hs:e.sh=0#8
   ·rw [if_pos hs] at fit ⊢
    refine ⟨_,_,rfl,Qf5 hli 9 (by omega) _ _,fun j _ h1=>hoB j h1,?_⟩
    refine LI.owns h8 hh hb g2 g3 hk fit.2.1 (h.data hh hone) (h.mem1 hh) ?_ (kt0:=ktOf e) ?_ ?_
    ·intro j _ _;exact ⟨by rw [hs,Xa],by omega⟩
    ·intro j hj hjk
     rw [if_neg (by simp [hjk])]
     exact hr j hj
    ·intro a h1 h2
     simp only [and_true,if_pos (show m.kd≤3 by omega)]
     exact r3 _ a h1 h2 (h.data hh hone)
   ·rw [if_neg hs] at fit ⊢
    refine ⟨_,_,rfl,Qf5 hli 8 (by omega) _ _,fun j _ h1=>hoB j h1,?_⟩
    refine LI.shares h8 hh hb g2 g3 hk fit.2.1 (h.data hh hone) h.lo.2.2.1 (h.mem1 hh) hone (kt0:=ktOf e) ?_ ?_
    ·intro j hj hjk
     rw [if_neg (by simp [hjk])]
     exact hr j hj
    ·intro a h1 h2
     simp only [and_true,if_pos (show m.kd≤3 by omega)]
     exact r2 _ a h1 h2
 ·rw [show XX e k m=Qb6 e k m by simp [XX,kd]] at fit ⊢
  have hUk:=hU (by omega)
  have hrk:=hr k hk
  rw [hUk] at hrk
  obtain ⟨n1,r1,r3⟩:=hrk.getM kd
  have n1':e.ow≠(k:Int):=by simpa using n1
  have hoth:∀j:Nat,j<8→(hasM (XH e&&& ~~~(bitM (k:Int))) (j:Int)=true↔(hasM e.sh j=true∨e.ow=(j:Int))∧j≠k):=by
   intro j hj
   rw [YD,Bool.and_eq_true,Jk e hj,Bool.not_eq_true',Yd _ hkC,decide_eq_false_iff_not]
   exact and_congr_right fun _=>not_congr (by omega)
  unfold Qb6 at fit ⊢
  by_cases hc:(XH e&&& ~~~(bitM (k:Int)))=0#8
  ·rw [if_pos hc] at fit ⊢
   have hnone:∀j:Nat,j<8→j≠k→hasM e.sh j=false∧e.ow≠(j:Int):=by
    intro j hj hjk
    have h1:=hoth j hj
    rw [hc,Xa] at h1
    constructor
    ·cases h2:hasM e.sh (j:Int)
     ·rfl
     ·exact absurd (h1.2 ⟨.inl h2,hjk⟩) (by decide)
    ·intro h2;exact absurd (h1.2 ⟨.inr h2,hjk⟩) (by decide)
   have hone:e.ow= -1:=by
    rcases g1 with h1|⟨h1,_⟩
    ·exact h1
    ·obtain ⟨j,hj,hj2⟩:=Y6 h1
     by_cases hjk:j=k
     ·subst hjk;exact absurd hj2 n1'
     ·exact absurd hj2 (hnone j hj hjk).2
   refine ⟨_,_,rfl,Qf5 hli 10 (by omega) _ _,fun j _ h1=>hoB j h1,?_⟩
   refine LI.owns h8 hh hb g2 g3 hk fit.2.1 (h.data hh hone) (h.mem1 hh) (fun j hj hjk=>hnone j (by omega) hjk) (kt0:=ktOf e) ?_ ?_
   ·intro j hj hjk
    rw [if_neg (by simp [hjk])]
    exact hr j hj
   ·intro a h1 h2
    simp only [and_true,if_pos (show m.kd≤3 by omega)]
    exact r3 _ a h1 h2 (h.data hh hone)
  ·rw [if_neg hc] at fit ⊢
   refine ⟨_,_,rfl,Qdd hli 12 (by omega),fun j hj h1=>?_,?_⟩
   ·rcases ((hoth j hj).1 h1).1 with h2|h2
    ·exact h.lo.2.2.1 j hj h2
    ·exact hown j h2
   ·refine h.waits h8 hh hb hk (kt:=12) (by rw [kd];rfl) (.inr (.inl kd)) fit.2.1 (fun j hj h1=>((hoth j hj).1 h1).1) (fun h1=>by omega) ?_ ?_ ?_ (fun h1=>by omega) (fun _ j hj h1 h2=>(hoth j hj).2 ⟨h1,by omega⟩)
    ·intro j hj;simp [hj]
    ·intro h1;omega
    ·intro _
     refine ⟨?_,?_⟩
     ·cases h1:hasM (XH e&&& ~~~(bitM (k:Int))) (k:Int)
      ·rfl
      ·exact absurd rfl ((hoth k (by omega)).1 h1).2
     ·simp only [and_true,if_pos (show m.kd≤3 by omega)]
      rw [n1,kd]
      exact r1 _ _
 ·rw [show XX e k m=putE e k m by simp [XX,kd]] at fit ⊢
  have hUk:=hU (by omega)
  have hrk:=hr k hk
  rw [hUk] at hrk
  obtain ⟨r1,r2⟩:=hrk.put kd
  refine ⟨_,_,rfl,Qdd hli 11 (by omega),fun j _ h1=>hoB j h1,?_⟩
  have hw:∀x:En,(Zx x k).he=x.he∧(Zx x k).di=x.di∧(Zx x k).l=x.l∧(Zx x k).ow=(if x.ow=k then -1 else x.ow)∧(Zx x k).sh=x.sh&&& ~~~(bitM (k:Int))∧(Zx x k).bu=x.bu∧(Zx x k).by_=x.by_∧(Zx x k).wa=x.wa:=by
   intro x;unfold Zx;split<;>exact ⟨rfl,rfl,rfl,by simp [*,En.setOw,En.setSh],rfl,rfl,rfl,rfl⟩
  have hp:(putE e k m).1=Zx (if e.ow=k then ZD e m else e) k:=rfl
  obtain ⟨q1,q2,q3,q4,q5,q6,q7,q8⟩:=hw (if e.ow=k then ZD e m else e)
  rw [←hp] at q1 q2 q3 q4 q5 q6 q7 q8
  have hz:(if e.ow=(k:Int) then ZD e m else e).ow=e.ow∧(if e.ow=(k:Int) then ZD e m else e).sh=e.sh∧(if e.ow=(k:Int) then ZD e m else e).bu=0∧(if e.ow=(k:Int) then ZD e m else e).by_=0∧(if e.ow=(k:Int) then ZD e m else e).wa=0#8:=by
   obtain ⟨_,b2,b3,b4,b5,b6⟩:=Qdn e m
   split
   ·exact ⟨b2,b3,b4.trans hb,b5.trans g2,b6.trans g3⟩
   ·exact ⟨rfl,rfl,hb,g2,g3⟩
  obtain ⟨z1,z2,z3,z4,z5⟩:=hz
  rw [z1] at q4
  rw [z2] at q5
  rw [z3] at q6
  rw [z4] at q7
  rw [z5] at q8
  have hl:e.ow=(k:Int)→(putE e k m).1.l=cur∧(m.di=true→(putE e k m).1.di=true)∧(m.di=false→(putE e k m).1.l=e.l∧(putE e k m).1.di=e.di):=by
   intro ho
   obtain ⟨s1,s2⟩:=r1 (by simpa using ho)
   rw [q3,q2,if_pos ho]
   unfold ZD
   cases hd:m.di
   ·simp only [Bool.false_eq_true,if_false]
    exact ⟨s2 hd,fun h=>(by cases h),fun _=>⟨trivial,trivial⟩⟩
   ·simp only [if_true]
    exact ⟨s1 hd,fun _=>rfl,fun h=>by cases h⟩
  have hn:e.ow≠(k:Int)→(putE e k m).1.l=e.l∧(putE e k m).1.di=e.di:=by
   intro ho
   rw [q3,q2,if_neg ho];exact ⟨rfl,rfl⟩
  have fit1:=fit.1
  have fit2:=fit.2.1
  clear fit hp
  generalize (putE e k m).1=e' at *
  refine ⟨fit2,⟨?_,by rw [q7];omega,fun j hj h1=>?_,fun j _ h1=>?_⟩,?_,fun _ h1=>?_,fun h1=>?_,fun _ h1=>?_,fun h1=>?_,fun h1=>?_⟩
  ·rw [q4];split
   ·omega
   ·exact h.lo.1
  ·rw [q5,YD,Bool.and_eq_true] at h1
   exact h.lo.2.2.1 j hj h1.1
  ·rw [q8,Xa] at h1;cases h1
  ·intro j hj
   rw [q5,q8,Xa,bOf_0 q6,YD,Yd _ hkC,show ktOf e'=13 by unfold ktOf;rw [q6];rfl]
   by_cases hjk:j=k
   ·subst hjk
    rw [decide_eq_true rfl,if_pos rfl]
    have e1:decide (e'.ow=(j:Int))=false:=by
     rw [q4];split
     ·exact decide_eq_false (by omega)
     ·rename_i h2;simpa using h2
    rw [e1]
    simp only [and_true,if_pos (show m.kd≤3 by omega),Bool.not_true,Bool.and_false]
    exact r2 _ _ _ _ rfl
   ·rw [decide_eq_false (show ¬(k:Int)=(j:Int) by omega),if_neg (show ¬(m.kd≤3∧j=k) by simp [hjk])]
    simp only [Bool.false_eq_true,if_false,List.append_nil,Bool.not_false,Bool.and_true]
    have h2:=((hr j hj).anyKt 13).1
    by_cases ho:e.ow=(k:Int)
    ·rw [q4,if_pos ho,decide_eq_false (show ¬((-1:Int)=(j:Int)) by omega)]
     rw [decide_eq_false (by omega)] at h2
     exact h2.anyEl _
    ·rw [q4,if_neg ho,(hn ho).1]
     exact h2
  ·by_cases ho:e.ow=(k:Int)
   ·exact (hl ho).1
   ·rw [q4,if_neg ho] at h1
    rw [(hn ho).1];exact h.data hh h1
  ·exact absurd (fit1.symm.trans h1) (by decide)
  ·by_cases ho:e.ow=(k:Int)
   ·cases hd:m.di
    ·rw [((hl ho).2.2 hd).1]
     exact h.mem1 hh (by rw [←((hl ho).2.2 hd).2];exact h1)
    ·exact absurd (((hl ho).2.1 hd).symm.trans h1) (by decide)
   ·rw [(hn ho).1]
    exact h.mem1 hh (by rw [←(hn ho).2];exact h1)
  ·exact absurd (q6.symm.trans h1) (by decide)
  ·exact absurd (q6.symm.trans h1) (by decide)
 ·rw [show XX e k m=Qdb e k m by simp [XX,kd]] at fit ⊢
  refine ⟨_,_,rfl,Qdd hli 13 (by omega),fun j _ h1=>?_,?_⟩
  ·rw [Qch,Bool.and_eq_true,decide_eq_true_eq] at h1;exact hown j h1.2
  ·refine h.waits h8 hh hb hk (kt:=13) (by rw [kd];rfl) (by omega) fit.2.1 Qfv ?_ ?_ ?_ ?_ (fun h1=>by omega) (fun h1=>by omega)
   ·intro _ j _ h1;rw [Qch,Bool.and_eq_true,decide_eq_true_eq] at h1;exact h1.2
   ·intro j hj;simp [hj]
   ·intro _;rw [if_neg (by omega)]
   ·intro h1;omega
 ·rw [show XX e k m=wipeE e k m by simp [XX,kd]] at fit ⊢
  refine ⟨_,_,rfl,Qdd hli 12 (by omega),fun j hj h1=>?_,?_⟩
  ·rcases (Jk e hj).1 h1 with h2|h2
   ·exact h.lo.2.2.1 j hj h2
   ·exact hown j h2
  ·refine h.waits h8 hh hb hk (kt:=12) (by rw [kd];rfl) (by omega) fit.2.1 (fun j hj h1=>(Jk e hj).1 h1) (fun h1=>by omega) ?_ ?_ ?_ (fun h1=>by omega) (fun h1=>by omega)
   ·intro j hj;simp [hj]
   ·intro _;rw [if_neg (by omega)]
   ·intro h1;omega
theorem LI.answered (h:LI co cur X e st l U N D) (h8:co≤8) {k:Nat} (hk:k<co) {m:Ms} (hm:Xe m.kd=true) (hg:mg m=true) {V:List Ms} (hN:N k=m::V):
 ∃(o:Mk) (a:Ms),(ansE e k m).2=0∧(ansE e k m).1.2=Xf o a∧Qdc m.li a∧(∀j:Nat,j<8→hasM o j=true→j<co)∧
  LI co cur X (ansE e k m).1.1 st l U (fun j=>if j=k then V else N j) (fun j=>D j++if hasM o j=true then [a] else []):=by
 have hkC:isC (k:Int)=true:=Qas (by omega)
 have hli:JT m.li=true:=by simp only [mg,Bool.and_eq_true] at hg;exact hg.1.1.1.2
 have hrk:=h.rel k hk
 rw [hN] at hrk
 obtain ⟨w1,rfl,b1,os,r1,d1,d2,kk⟩:=hrk.answer
 have hh:=Qf4 h.good w1
 obtain ⟨g1,g2⟩:=(Yo hh).1 h.good
 have harg:Qbo e (k:Int) m=true:=by simp [Qbo,h.good,hkC,hg,hm]
 obtain ⟨a1,a2,a3,a4,a5,a6⟩:=Qa6 e (k:Int) m
 obtain ⟨f1,f2,f3⟩:=Qep (m:=m) h.good w1
 have fit:=ans_fit (m:=m) h.good w1
 have hl:(Zn e (k:Int) m).l=cur∧((Zn e (k:Int) m).di=false→X=(Zn e (k:Int) m).l)∧(e.ow≠(k:Int)→(Zn e (k:Int) m).l=e.l):=by
  have q:(Zn e (k:Int) m).l=(ZD e m).l∧(Zn e (k:Int) m).di=(ZD e m).di:=by
   have hw:∀x:En,(Zx x k).l=x.l∧(Zx x k).di=x.di:=by
    intro x;unfold Zx;split<;>exact ⟨rfl,rfl⟩
   unfold Zn
   dsimp only
   split
   ·exact hw _
   ·exact hw _
  rw [q.1,q.2]
  unfold ZD
  by_cases ho:e.ow=(k:Int)
  ·obtain ⟨s1,s2⟩:=d1 (by simpa using ho)
   cases hd:m.di
   ·simp only [Bool.false_eq_true,if_false]
    exact ⟨s2 hd,fun h1=>h.mem1 hh h1,fun h1=>trivial⟩
   ·simp only [if_true]
    exact ⟨s1 hd,fun h1=>(by cases h1),fun h1=>absurd ho h1⟩
  ·have hd:=d2 (by simpa using ho)
   rw [hd]
   simp only [Bool.false_eq_true,if_false]
   refine ⟨?_,fun h1=>h.mem1 hh h1,fun _=>trivial⟩
   have hs:hasM e.sh (k:Int)=true:=by
    rw [decide_eq_false ho] at os;simpa using os
   refine h.data hh ?_
   rcases g1 with h1|⟨_,h1⟩
   ·exact h1
   ·rw [h1,Xa] at hs;cases hs
 have hlo:Lo co (Zn e (k:Int) m):=by
  refine ⟨by rw [f1];omega,by rw [a5];exact h.lo.2.1,fun j hj h1=>?_,fun j hj h1=>?_⟩
  ·rw [a3] at h1
   split at h1
   ·rw [Qff,Bool.or_eq_true,Yd _ hkC,decide_eq_true_eq,YD,Bool.and_eq_true] at h1
    rcases h1 with h1|h1
    ·exact h.lo.2.2.1 j hj h1.1
    ·omega
   ·rw [YD,Bool.and_eq_true] at h1
    exact h.lo.2.2.1 j hj h1.1
  ·rw [a6,YD,Bool.and_eq_true] at h1
   exact h.lo.2.2.2 j hj h1.1
 have hkt:ktOf (Zn e (k:Int) m)=ktOf e:=by unfold ktOf;rw [a4]
 have hbo:∀j:Nat,bOf (Zn e (k:Int) m) j=bOf e j:=fun j=>by unfold bOf;rw [a4,a5]
 have hrel:∀j:Nat,j<co→Rel cur (Zn e (k:Int) m).l (ktOf (Zn e (k:Int) m)) (decide ((Zn e (k:Int) m).ow=(j:Int))) (hasM (Zn e (k:Int) m).sh j) (hasM (Zn e (k:Int) m).wa j) (bOf (Zn e (k:Int) m) j) (st j) (l j) (U j) ((fun j=>if j=k then [] else N j) j) (D j):=by
  intro j hj
  have e1:decide ((Zn e (k:Int) m).ow=(j:Int))=false:=by rw [f1];exact decide_eq_false (by omega)
  rw [e1,hbo,hkt]
  by_cases hjk:j=k
  ·subst hjk
   have e2:hasM (Zn e (j:Int) m).sh j=m.ke:=by
    rw [a3]
    cases m.ke
    ·simp only [Bool.false_eq_true,if_false]
     rw [YD,Yd _ hkC];simp
    ·simp only [if_true]
     rw [Qff,Yd _ hkC];simp
   have e3:hasM (Zn e (j:Int) m).wa j=false:=by
    rw [a6,YD,Yd _ hkC];simp
   rw [e2,e3,b1]
   simp only [if_true]
   exact r1 _ _
  ·have e2:hasM (Zn e (k:Int) m).sh j=hasM e.sh j:=by
    rw [a3]
    split
    ·rw [Qff,YD,Yd _ hkC,decide_eq_false (by omega)];simp
    ·rw [YD,Yd _ hkC,decide_eq_false (by omega)];simp
   have e3:hasM (Zn e (k:Int) m).wa j=hasM e.wa j:=by
    rw [a6,YD,Yd _ hkC,decide_eq_false (by omega)];simp
   rw [e2,e3]
   simp only [hjk,if_false]
   have h1:=h.rel j hj
   have e4:decide (e.ow=(j:Int))=false:=by
    rw [a2] at f1
    split at f1
    ·rename_i h2;exact decide_eq_false (by omega)
    ·rw [f1];exact decide_eq_false (by omega)
   rw [e4] at h1
   exact h1.anyEl _
 have hke:e.bu=2→m.ke=false:=fun hb=>kk (by unfold ktOf;rw [if_pos (.inl hb)])
 have hw2:e.bu=2→∀j:Nat,j<8→(hasM (Zn e (k:Int) m).sh j=true∨(Zn e (k:Int) m).ow=(j:Int))→(j:Int)≠e.by_→hasM (Zn e (k:Int) m).wa j=true:=by
  intro hb j hj h1 h2
  rcases h1 with h1|h1
  ·rw [a3,hke hb] at h1
   simp only [Bool.false_eq_true,if_false] at h1
   rw [YD,Bool.and_eq_true] at h1
   rw [a6,YD,h.wait2 hb j hj (.inl h1.1) h2,h1.2];rfl
  ·rw [f1] at h1;omega
 unfold ansE
 rw [if_pos harg,if_pos w1]
 generalize Zn e (k:Int) m=A at *
 have hhA:A.he=true:=a1.trans hh
 by_cases hw:A.wa≠0#8
 ·rw [if_pos hw] at fit ⊢
  refine ⟨0#8,ms4 11 m.li false false,rfl,rfl,Qdd hli 11 (by omega),fun j _ h1=>(by rw [Xa] at h1;cases h1),?_⟩
  refine ⟨fit.2.1,hlo,fun j hj=>?_,fun _ _=>hl.1,fun h1=>?_,fun _=>hl.2.1,fun _ h1=>absurd f1 h1,fun hb=>?_⟩
  ·rw [Xa]
   simp only [Bool.false_eq_true,if_false,List.append_nil]
   exact hrel j hj
  ·exact absurd (hhA.symm.trans h1) (by decide)
  ·rw [a5];exact hw2 (a4.symm.trans hb)
 ·have hw0:A.wa=0#8:=by simpa using hw
  rw [if_neg hw] at fit ⊢
  obtain ⟨p,hp,hby2⟩:=Y6 f2.1
  have hpc:p<co:=by have:=hlo.2.1;omega
  have hoth:∀j:Nat,j<co→j≠p→Rel cur A.l (ktOf A) (decide (A.ow=(j:Int))) (hasM A.sh j) false 0 (st j) (l j) (U j) ((fun j=>if j=k then [] else N j) j) (D j):=by
   intro j hj hjp
   have h1:=hrel j hj
   rw [hw0,Xa,bOf_ne (by omega)] at h1
   exact h1
  have hoB:∀j:Nat,hasM (bitM (p:Int)) (j:Int)=true→j<co:=fun j hj=>by rw [Yd _ (Qas hp),decide_eq_true_eq] at hj;omega
  have hrp:=hrel p hpc
  unfold X4 at fit ⊢
  by_cases hb1:A.bu=1
  ·rw [if_pos hb1] at fit ⊢
   rw [hby2] at fit ⊢
   rw [show bOf A p=1 by unfold bOf;rw [if_pos hby2,hb1];rfl] at hrp
   obtain ⟨_,_,_,r2⟩:=hrp.settleS
   refine ⟨_,_,rfl,rfl,Qf5 hli 8 (by omega) _ _,fun j _ h1=>hoB j h1,?_⟩
   exact LI.shares (e:=XG A) h8 hhA rfl rfl rfl hpc fit.2.1 hl.1 hlo.2.2.1 hl.2.1 f1 (kt0:=ktOf A) hoth (fun a h1 h2=>r2 _ a h1 h2 _)
  ·rw [if_neg hb1] at fit ⊢
   by_cases hb2:A.bu=2
   ·rw [if_pos hb2] at fit ⊢
    rw [hby2] at fit ⊢
    rw [show bOf A p=2 by unfold bOf;rw [if_pos hby2,hb2];rfl] at hrp
    obtain ⟨_,_,r2⟩:=hrp.settleM
    refine ⟨_,_,rfl,rfl,Qf5 hli 10 (by omega) _ _,fun j _ h1=>hoB j h1,?_⟩
    refine LI.owns (e:=XG A) h8 hhA rfl rfl rfl hpc fit.2.1 hl.1 hl.2.1 ?_ (kt0:=ktOf A) hoth (fun a h1 h2=>r2 _ a h1 h2 _ hl.1)
    intro j hj hjp
    have h1:=hw2 (a4.symm.trans hb2) j (by omega)
    rw [hw0,Xa] at h1
    constructor
    ·cases h2:hasM (XG A).sh (j:Int)
     ·rfl
     ·exact absurd (h1 (.inl h2) (by rw [←a5];omega)) (by decide)
    ·show A.ow≠(j:Int)
     rw [f1];omega
   ·rw [if_neg hb2] at fit ⊢
    refine ⟨0#8,ms4 11 m.li false false,rfl,rfl,Qdd hli 11 (by omega),fun j _ h1=>(by rw [Xa] at h1;cases h1),?_⟩
    refine ⟨fit.2.1,hlo,fun j hj=>?_,fun _ _=>hl.1,fun h1=>?_,fun _=>hl.2.1,fun _ h1=>absurd f1 h1,fun hb=>absurd hb hb2⟩
    ·rw [Xa]
     simp only [Bool.false_eq_true,if_false,List.append_nil]
     exact hrel j hj
    ·exact absurd (hhA.symm.trans h1) (by decide)
end
end
section
structure Mst where
 ps:List Pt
 en:List En
 es:List Ent
 xs:List Int
def Mst.X (S:Mst):List Int:=over S.xs S.es
def upL (x:Pt) (i:Nat):List Ms:=x.up.filter (fun m=>m.li==(i:Int)&&decide (m.kd≤3))
def anL (x:Pt) (i:Nat):List Ms:=x.an.filter (fun m=>m.li==(i:Int))
def dnL (x:Pt) (i:Nat):List Ms:=x.dn.filter (fun m=>m.li==(i:Int)&&m.kd !=14)
def vst (x:Pt) (i:Nat):Nat:=(vw x.s i).1.toNat
def vln (x:Pt) (i:Nat):List Int:=(vw x.s i).2
def ptN:Pt:=⟨([],0),[],[],[]⟩
def atP (ps:List Pt) (j:Nat):Pt:=ps.getD j ptN
theorem Y3 {ps:List Pt} {k:Nat} {x:Pt} (h:ps[k]? =some x):atP ps k=x:=by simp [atP,List.getD,h]
theorem atP_mem {ps:List Pt} {k:Nat} (h:k<ps.length):ps[k]? =some (atP ps k):=by
 rw [atP,List.getD_eq_getElem?_getD,List.getElem?_eq_getElem h];rfl
theorem YU {ps:List Pt} {k:Nat} (h:k<ps.length) (x:Pt) (j:Nat):atP (ps.set k x) j=if j=k then x else atP ps j:=by
 unfold atP
 rw [List.getD_eq_getElem?_getD,List.getD_eq_getElem?_getD,List.getElem?_set]
 by_cases hj:k=j
 ·subst hj;simp [h]
 ·rw [if_neg hj,if_neg (fun e=>hj e.symm)]
def LinI (co:Nat) (ps:List Pt) (cur X:List Int) (i:Nat) (e:En):Prop:=
 LI co cur X e (fun j=>vst (atP ps j) i) (fun j=>vln (atP ps j) i) (fun j=>upL (atP ps j) i) (fun j=>anL (atP ps j) i) (fun j=>dnL (atP ps j) i)
theorem LI.with {co:Nat} {cur X:List Int} {e:En} {st st':Nat→Nat} {l l':Nat→List Int} {U N D U' N' D':Nat→List Ms} (h:LI co cur X e st l U N D)
 (hr:∀j:Nat,j<co→Rel cur e.l (ktOf e) (decide (e.ow=(j:Int))) (hasM e.sh j) (hasM e.wa j) (bOf e j) (st' j) (l' j) (U' j) (N' j) (D' j)):LI co cur X e st' l' U' N' D':=
 ⟨h.good,h.lo,hr,h.data,h.mem0,h.mem1,h.wait1,h.wait2⟩
theorem LinI.same {co:Nat} {ps ps':List Pt} {cur X:List Int} {i:Nat} {e:En} (h:LinI co ps cur X i e) (hs:∀j,j<co→vst (atP ps' j) i=vst (atP ps j) i∧vln (atP ps' j) i=vln (atP ps j) i∧upL (atP ps' j) i=upL (atP ps j) i∧anL (atP ps' j) i=anL (atP ps j) i∧dnL (atP ps' j) i=dnL (atP ps j) i):LinI co ps' cur X i e:=by
 refine h.with fun j hj=>?_
 obtain ⟨h1,h2,h3,h4,h5⟩:=hs j hj
 rw [h1,h2,h3,h4,h5]
 exact h.rel j hj
theorem AOk.msg {li:Int} {st st':Int} {l l':List Int} {ms:List Ms} (h:AOk li st l st' l' ms) (hl:JT li=true):∃m,ms=[m]∧m.li=li∧m.kd≤3∧Yc m.kd=true∧mg m=true:=by
 cases h with
 |askS=>exact ⟨_,rfl,rfl,by simp [ms4],rfl,by simp [mg,ms4,Qak,hl]⟩
 |askM=>exact ⟨_,rfl,rfl,by simp [ms4],rfl,by simp [mg,ms4,Qak,hl]⟩
 |up=>exact ⟨_,rfl,rfl,by simp [ms4],rfl,by simp [mg,ms4,Qak,hl]⟩
 |outS=>exact ⟨_,rfl,rfl,by simp [ms4],rfl,by simp [mg,ms4,Qak,hl]⟩
 |outE=>exact ⟨_,rfl,rfl,by simp [ms4],rfl,by simp [mg,ms4,Qak,hl]⟩
 |outM l m hk hli hd hke hm=>exact ⟨_,rfl,hli,by omega,by rw [hk];rfl,by simp [mg,hk,hli,hd,hke,Qak,mayD,hl]⟩
section
variable {co:Nat} {ps:List Pt} {cur X:List Int} {i:Nat} {e:En}
theorem LinI.ag (h:LinI co ps cur X i e) {n k:Nat} {x:Pt} (hn:n≤64) (hx:ps[k]? =some x) {s':Sta} {ms:List Ms} (ha:Asks n x.s s' ms):LinI co (ps.set k {x with s:=s',up:=x.up++ms}) cur X i e:=by
 have hk:=(Vg hx).1
 refine h.with fun j hj=>?_
 have hr:=h.rel j hj
 simp only [YU hk]
 by_cases hjk:j=k
 ·subst hjk
  simp only [Y3 hx] at hr
  simp only [if_true]
  rcases ha with ⟨rfl,hv⟩|⟨li,h0,hn',ha,ho⟩
  ·have e1:vst {x with s:=s',up:=x.up++[]} i=vst x i:=by unfold vst;rw [hv]
   have e2:vln {x with s:=s',up:=x.up++[]} i=vln x i:=by unfold vln;rw [hv]
   have e3:upL {x with s:=s',up:=x.up++[]} i=upL x i:=by unfold upL;rw [List.append_nil]
   rw [e1,e2,e3];exact hr
  ·obtain ⟨m,hm,hml,hmk,_⟩:=ha.msg (by unfold JT;simp;omega)
   have e3:upL {x with s:=s',up:=x.up++ms} i=upL x i++ms.filter (fun m=>m.li==(i:Int)&&decide (m.kd≤3)):=by unfold upL;rw [List.filter_append]
   rw [e3]
   by_cases hi:li=(i:Int)
   ·subst hi
    have h2:=hr.ask ha.nat
    have e4:ms.filter (fun m=>m.li==(i:Int)&&decide (m.kd≤3))=ms:=by rw [hm];simp [hml,hmk]
    rw [e4]
    exact h2
   ·have e4:ms.filter (fun m=>m.li==(i:Int)&&decide (m.kd≤3))=[]:=by rw [hm];simp [hml,hi]
    have hv:=ho (i:Int) (fun e=>hi e.symm)
    have e1:vst {x with s:=s',up:=x.up++ms} i=vst x i:=by unfold vst;rw [hv]
    have e2:vln {x with s:=s',up:=x.up++ms} i=vln x i:=by unfold vln;rw [hv]
    rw [e4,List.append_nil,e1,e2];exact hr
 ·simp only [hjk,if_false];exact hr
theorem LI.ow_ne {co:Nat} {cur X:List Int} {e:En} {st:Nat→Nat} {l:Nat→List Int} {U N D:Nat→List Ms} (h:LI co cur X e st l U N D) {k:Nat} (hk:e.ow=(k:Int)):e.he=true∧e.sh=0#8∧∀j:Nat,j≠k→e.ow≠(j:Int):=by
 have hh:e.he=true:=by
  cases hh:e.he
  ·have he:e=enE:=by
    have:=h.good
    unfold Xz at this
    rw [if_neg (by simp [hh])] at this
    simpa using this
   rw [he] at hk
   have:(-1:Int)=(k:Int):=hk
   omega
  ·rfl
 obtain ⟨g1,_⟩:=(Yo hh).1 h.good
 refine ⟨hh,?_,fun j hj=>by omega⟩
 rcases g1 with h1|h1
 ·omega
 ·exact h1.2
theorem LinI.write (h:LinI co ps cur X i e) {k:Nat} {x:Pt} (hkc:k<co) (hx:ps[k]? =some x) {s':Sta} (cur':List Int) (hs:(vw x.s i).1=2∨(vw x.s i).1=3) (hv:vw s' i=(3,cur')):LinI co (ps.set k {x with s:=s'}) cur' X i e∧vln x i=cur:=by
 have hk:=(Vg hx).1
 have hrk:=h.rel k hkc
 simp only [Y3 hx] at hrk
 have hst:vst x i=2∨vst x i=3:=by unfold vst;omega
 obtain ⟨r1,r2,r3⟩:=hrk.write hst cur'
 have how:e.ow=(k:Int):=by simpa using r3
 obtain ⟨hh,hsh,hne⟩:=h.ow_ne how
 refine ⟨⟨h.good,h.lo,fun j hj=>?_,fun _ h1=>by omega,fun h1=>absurd (hh.symm.trans h1) (by decide),h.mem1,h.wait1,h.wait2⟩,r2⟩
 have hr:=h.rel j hj
 simp only [YU hk]
 by_cases hjk:j=k
 ·subst hjk
  simp only [if_true]
  have e1:vst {x with s:=s'} i=3:=by unfold vst;rw [hv];rfl
  have e2:vln {x with s:=s'} i=cur':=by unfold vln;rw [hv]
  rw [e1,e2]
  exact r1
 ·simp only [hjk,if_false]
  rw [decide_eq_false (hne j hjk),hsh,Xa] at hr ⊢
  obtain ⟨h1,h2,h3⟩:=hr.none cur' e.l (ktOf e)
  rw [h1,h2];exact h3
theorem LinI.writeOff (h:LinI co ps cur X i e) {k:Nat} {x:Pt} (hx:ps[k]? =some x) {s':Sta} (hv:vw s' i=vw x.s i):LinI co (ps.set k {x with s:=s'}) cur X i e:=by
 have hk:=(Vg hx).1
 refine h.same fun j hj=>?_
 simp only [YU hk]
 by_cases hjk:j=k
 ·subst hjk
  simp only [if_true,Y3 hx]
  exact ⟨by unfold vst;rw [hv],by unfold vln;rw [hv],rfl,rfl,rfl⟩
 ·simp only [hjk,if_false,and_self]
theorem hv_ex (m:Ms) (x:Slt):∃st' l',HV m x st' l':=by
 refine ⟨if tb m.kd x.st=10 then 0 else if tb m.kd x.st=11 then x.st else tb m.kd x.st,if tb m.kd x.st=11 then x.l else Yg m x (tb m.kd x.st),fun h=>by rw [if_pos h],fun h=>?_,fun h1 h2=>?_⟩
 ·rw [if_neg (by omega),if_pos h,if_pos h];exact ⟨rfl,rfl⟩
 ·rw [if_neg h1,if_neg h2,if_neg h2];exact ⟨rfl,rfl⟩
theorem dnL_cons {x:Pt} {m:Ms} {rest:List Ms} (hd:x.dn=m::rest) (i:Nat) (hm:m.li=(i:Int)) (h14:m.kd≠14):dnL x i=m::dnL {x with dn:=rest} i:=by
 unfold dnL
 rw [hd,List.filter_cons,if_pos (by simp [hm,h14])]
theorem dnL_skip {x:Pt} {m:Ms} {rest:List Ms} (hd:x.dn=m::rest) (i:Nat) (hm:m.li≠(i:Int)∨m.kd=14):dnL x i=dnL {x with dn:=rest} i:=by
 unfold dnL
 rw [hd,List.filter_cons,if_neg (by rcases hm with h|h<;>simp [h])]
theorem LinI.fits (h:LinI co ps cur X i e) {S N n k:Nat} {x:Pt} (hkc:k<co) (hx:ps[k]? =some x) (aj:AJ S N n x.s) {m:Ms} {rest:List Ms} (hd:x.dn=m::rest) (hm:m.li=(i:Int)):tb m.kd (vw x.s m.li).1≠0:=by
 by_cases h14:m.kd=14
 ·rw [h14];show (11:Int)≠0;decide
 ·have hr:=h.rel k hkc
  simp only [Y3 hx,dnL_cons hd i hm h14] at hr
  obtain ⟨st',l',hv⟩:=hv_ex m (Qn x.s.1 m.li)
  have h0:=(aj.sane1 m.li).1
  have hr':Rel cur e.l (ktOf e) (decide (e.ow=(k:Int))) (hasM e.sh k) (hasM e.wa k) (bOf e k) (Qn x.s.1 m.li).st.toNat (Qn x.s.1 m.li).l (upL x i) (anL x i) (m::dnL {x with dn:=rest} i):=by
   have e1:vst x i=(Qn x.s.1 m.li).st.toNat:=by unfold vst vw;rw [hm]
   have e2:vln x i=(Qn x.s.1 m.li).l:=by unfold vln vw;rw [hm]
   rw [←e1,←e2];exact hr
  exact (hr'.hear h0 (ktOf_or e) hv).1
theorem LinI.hear (h:LinI co ps cur X i e) {S N n k:Nat} {x:Pt} (hx:ps[k]? =some x) (aj:AJ S N n x.s) {m:Ms} {rest:List Ms} (hd:x.dn=m::rest) (hg:(mg m&&Z1 m.kd)=true) (hn:m.li<n) (ht:tb m.kd (vw x.s m.li).1≠0):
 LinI co (ps.set k {x with s:=(hearF S N x.s m).1,an:=x.an++Z8 m.kd (Qn x.s.1 m.li) (tb m.kd (vw x.s m.li).1),dn:=rest}) cur X i e:=by
 have hk:=(Vg hx).1
 obtain ⟨_,_,ho,v10,v11,vno⟩:=aj.hearF hg hn ht
 refine h.with fun j hj=>?_
 have hr:=h.rel j hj
 simp only [YU hk]
 by_cases hjk:j=k
 ·subst hjk
  simp only [Y3 hx] at hr
  simp only [if_true]
  generalize hs':(hearF S N x.s m).1=s' at *
  have hal:m.kd≠14→∀a∈Z8 m.kd (Qn x.s.1 m.li) (tb m.kd (vw x.s m.li).1),a.li=m.li:=by
   intro h14 a ha
   have hl:=(aj.line (tb_line ht h14)).2.2.1
   have htl:∀kd ke,(Yf kd (Qn x.s.1 m.li) ke).li=m.li:=by
    intro kd ke;unfold Yf;split
    ·exact hl
    ·exact hl
   unfold Z8 at ha
   split at ha
   ·rw [List.mem_singleton] at ha;rw [ha,htl]
   ·split at ha
    ·rw [List.mem_singleton] at ha;rw [ha,htl]
    ·cases ha
  have ean:∀av:List Ms,anL {x with s:=s',an:=x.an++av,dn:=rest} i=anL x i++av.filter (fun m=>m.li==(i:Int)):=by intro av;unfold anL;rw [List.filter_append]
  have eup:∀av:List Ms,upL {x with s:=s',an:=x.an++av,dn:=rest} i=upL x i:=fun _=>rfl
  have edn:∀av:List Ms,dnL {x with s:=s',an:=x.an++av,dn:=rest} i=dnL {x with dn:=rest} i:=fun _=>rfl
  have evs:∀av:List Ms,vst {x with s:=s',an:=x.an++av,dn:=rest} i=(vw s' i).1.toNat:=fun _=>rfl
  have evl:∀av:List Ms,vln {x with s:=s',an:=x.an++av,dn:=rest} i=(vw s' i).2:=fun _=>rfl
  rw [ean,eup,edn,evs,evl]
  by_cases h14:m.kd=14
  ·have e1:Z8 m.kd (Qn x.s.1 m.li) (tb m.kd (vw x.s m.li).1)=[]:=by rw [h14];rfl
   have e2:vw s' i=vw x.s i:=by
    by_cases hi:m.li=(i:Int)
    ·rw [←hi];exact v11 (by rw [h14];rfl)
    ·exact ho _ (fun e=>hi e.symm)
   rw [e1,e2,←dnL_skip hd i (.inr h14)]
   simp only [List.filter_nil,List.append_nil]
   exact hr
  ·by_cases hi:m.li=(i:Int)
   ·rw [dnL_cons hd i hi h14] at hr
    have e1:(Z8 m.kd (Qn x.s.1 m.li) (tb m.kd (vw x.s m.li).1)).filter (fun m=>m.li==(i:Int))=Z8 m.kd (Qn x.s.1 m.li) (tb m.kd (vw x.s m.li).1):=by
     rw [List.filter_eq_self]
     intro a ha
     rw [hal h14 a ha];simpa using hi
    rw [e1]
    have e2:vst x i=(Qn x.s.1 m.li).st.toNat:=by unfold vst vw;rw [hi]
    have e3:vln x i=(Qn x.s.1 m.li).l:=by unfold vln vw;rw [hi]
    rw [e2,e3] at hr
    refine (hr.hear (aj.sane1 m.li).1 (ktOf_or e) (st':=(vw s' i).1) (l':=(vw s' i).2) ⟨fun h1=>?_,fun h1=>?_,fun h1 h2=>?_⟩).2
    ·rw [←hi];exact v10 h1
    ·rw [←hi,v11 h1];exact ⟨rfl,rfl⟩
    ·rw [←hi,vno h1 h2];exact ⟨rfl,rfl⟩
   ·have e1:(Z8 m.kd (Qn x.s.1 m.li) (tb m.kd (vw x.s m.li).1)).filter (fun m=>m.li==(i:Int))=[]:=by
     rw [List.filter_eq_nil_iff]
     intro a ha
     rw [hal h14 a ha];simpa using hi
    rw [e1,ho _ (fun e=>hi e.symm),←dnL_skip hd i (.inl hi),List.append_nil]
    exact hr
 ·simp only [hjk,if_false];exact hr
theorem sendP_at (a:Ms):∀(cs:List Int) (ps:List Pt),cs.Nodup→(∀c∈cs,0≤c∧c<ps.length)→(XY ps (cs.map fun c=>(⟨c,a⟩:Sd))).length=ps.length∧∀j:Nat,j<ps.length→atP (XY ps (cs.map fun c=>(⟨c,a⟩:Sd))) j=if (j:Int)∈cs then {atP ps j with dn:=(atP ps j).dn++[a]} else atP ps j
 |[],ps,_,_=>⟨rfl,fun j _=>by simp [XY]⟩
 |c::cs,ps,hn,hc=>by
  obtain ⟨hc1,hc2⟩:=hc c (by simp)
  obtain ⟨p,rfl⟩:∃p:Nat,c=(p:Int):=⟨c.toNat,by omega⟩
  have hp:p<ps.length:=by omega
  have e1:XY ps (((p:Int)::cs).map fun c=>(⟨c,a⟩:Sd))=XY (ps.set p {atP ps p with dn:=(atP ps p).dn++[a]}) (cs.map fun c=>(⟨c,a⟩:Sd)):=by
   unfold XY
   rw [List.map_cons,List.foldl_cons]
   congr 1
   unfold Qga
   show (match ps[(p:Int).toNat]? with|some x=>_|none=>_)=_
   rw [Int.toNat_natCast,atP_mem hp]
  rw [List.nodup_cons] at hn
  obtain ⟨h1,h2⟩:=sendP_at a cs (ps.set p {atP ps p with dn:=(atP ps p).dn++[a]}) hn.2 (fun c hc'=>by rw [List.length_set];exact hc c (by simp [hc']))
  rw [e1]
  refine ⟨by rw [h1,List.length_set],fun j hj=>?_⟩
  rw [h2 j (by rw [List.length_set];exact hj),YU hp]
  by_cases hjp:j=p
  ·subst hjp
   rw [if_neg hn.1,if_pos rfl,if_pos (by simp)]
  ·simp only [hjp,if_false]
   by_cases hm:(j:Int)∈cs
   ·rw [if_pos hm,if_pos (by simp [hm])]
   ·rw [if_neg hm,if_neg (by simp [hm];omega)]
theorem coresL_nodup (o:Mk):(Jb o).Nodup:=by
 unfold Jb YT
 exact List.Nodup.sublist List.filter_sublist (by decide)
theorem has_isC {o:Mk} {c:Int} (h:hasM o c=true):isC c=true:=by
 cases hc:isC c
 ·rw [Qdj hc] at h;cases h
 ·rfl
theorem Qes (o:Mk) (a:Ms) (ps:List Pt) (h:∀j:Nat,j<8→hasM o j=true→j<ps.length):(XY ps (Xf o a)).length=ps.length∧∀j:Nat,j<ps.length→atP (XY ps (Xf o a)) j=if hasM o j=true then {atP ps j with dn:=(atP ps j).dn++[a]} else atP ps j:=by
 have:=sendP_at a (Jb o) ps (coresL_nodup o) (fun c hc=>by
  have h1:=(Qd7 o c).1 hc
  obtain ⟨j,hj,rfl⟩:=Y6 (has_isC h1)
  have:=h j hj h1
  omega)
 refine ⟨this.1,fun j hj=>?_⟩
 rw [show Xf o a=(Jb o).map fun c=>(⟨c,a⟩:Sd) from rfl,this.2 j hj]
 by_cases hm:hasM o (j:Int)=true
 ·rw [if_pos hm,if_pos ((Qd7 o j).2 hm)]
 ·rw [if_neg hm,if_neg (fun h=>hm ((Qd7 o j).1 h))]
theorem LinI.sent (h:LinI co ps cur X i e) (hl:ps.length=co) {o:Mk} {a:Ms} (ho:∀j:Nat,j<8→hasM o j=true→j<co) (ha:a.li≠(i:Int)∨a.kd=14):LinI co (XY ps (Xf o a)) cur X i e:=by
 obtain ⟨_,h2⟩:=Qes o a ps (by rw [hl];exact ho)
 refine h.same fun j hj=>?_
 rw [h2 j (by omega)]
 split
 ·refine ⟨rfl,rfl,rfl,rfl,?_⟩
  unfold dnL
  rw [List.filter_append]
  have:[a].filter (fun m=>m.li==(i:Int)&&m.kd !=14)=[]:=by rcases ha with ha|ha<;>simp [ha]
  rw [this,List.append_nil]
 ·exact ⟨rfl,rfl,rfl,rfl,rfl⟩
theorem LinI.sends {st:Nat→Nat} {l:Nat→List Int} {U N:Nat→List Ms} {D:Nat→List Ms} {e':En} {o:Mk} {a:Ms} (h:LI co cur X e' st l U N (fun j=>D j++if hasM o j=true then [a] else [])) (hl:ps.length=co) (ho:∀j:Nat,j<8→hasM o j=true→j<co) (ha:a.li=(i:Int)) (h14:a.kd≠14)
 (hs:∀j,j<co→vst (atP ps j) i=st j∧vln (atP ps j) i=l j∧upL (atP ps j) i=U j∧anL (atP ps j) i=N j∧dnL (atP ps j) i=D j):LinI co (XY ps (Xf o a)) cur X i e':=by
 obtain ⟨_,h2⟩:=Qes o a ps (by rw [hl];exact ho)
 refine h.with fun j hj=>?_
 have hr:=h.rel j hj
 obtain ⟨h3,h4,h5,h6,h7⟩:=hs j hj
 simp only [h2 j (show j<ps.length by omega)]
 rw [←h3,←h4,←h5,←h6,←h7] at hr
 by_cases hm:hasM o (j:Int)=true
 ·rw [if_pos hm]
  have e1:dnL {atP ps j with dn:=(atP ps j).dn++[a]} i=dnL (atP ps j) i++if hasM o (j:Int)=true then [a] else []:=by
   unfold dnL
   rw [List.filter_append,if_pos hm]
   congr 1
   simp [ha,h14]
  rw [e1];exact hr
 ·rw [if_neg hm]
  rw [if_neg hm,List.append_nil] at hr
  exact hr
theorem upL_cons {x:Pt} {m:Ms} {rest:List Ms} (hd:x.up=m::rest) (i:Nat) (hm:m.li=(i:Int)) (h3:m.kd≤3):upL x i=m::upL {x with up:=rest} i:=by
 unfold upL
 rw [hd,List.filter_cons,if_pos (by simp [hm,h3])]
theorem upL_skip {x:Pt} {m:Ms} {rest:List Ms} (hd:x.up=m::rest) (i:Nat) (hm:m.li≠(i:Int)∨¬m.kd≤3):upL x i=upL {x with up:=rest} i:=by
 unfold upL
 rw [hd,List.filter_cons,if_neg (by rcases hm with h|h<;>simp [h])]
theorem anL_cons {x:Pt} {m:Ms} {rest:List Ms} (hd:x.an=m::rest) (i:Nat) (hm:m.li=(i:Int)):anL x i=m::anL {x with an:=rest} i:=by
 unfold anL
 rw [hd,List.filter_cons,if_pos (by simp [hm])]
theorem anL_skip {x:Pt} {m:Ms} {rest:List Ms} (hd:x.an=m::rest) (i:Nat) (hm:m.li≠(i:Int)):anL x i=anL {x with an:=rest} i:=by
 unfold anL
 rw [hd,List.filter_cons,if_neg (by simp [hm])]
theorem LinI.up (h:LinI co ps cur X i e) (h8:co≤8) (hl:ps.length=co) (hX:X.length=8) (hb:e.bu=0) {k:Nat} {x:Pt} (hx:ps[k]? =some x) {m:Ms} {rest:List Ms} (hu:x.up=m::rest) (hm:Yc m.kd=true) (hg:mg m=true) (hi:m.li=(i:Int)):
 ∃(o:Mk) (a:Ms) (e':En),askE (Qa4 e X hX) k m=((e',Xf o a),0)∧Qdc m.li a∧(∀j:Nat,j<8→hasM o j=true→j<co)∧LinI co (XY (ps.set k {x with up:=rest}) (Xf o a)) cur X i e':=by
 have hk:=(Vg hx).1
 obtain ⟨h1,hh,hbb⟩:=LI.here h hX
 have hb':(Qa4 e X hX).bu=0:=hbb.trans hb
 have hli:JT m.li=true:=by simp only [mg,Bool.and_eq_true] at hg;exact hg.1.1.1.2
 obtain ⟨o,a,d1,d2,d3,d4⟩:=LI.deed h1 h8 hh hb' (k:=k) (by omega) hm hli (V:=upL {x with up:=rest} i) (fun h3=>by simp only [Y3 hx];exact upL_cons hu i hi h3)
 have harg:JR (Qa4 e X hX) k m=true:=by simp [JR,h1.good,Qas (show k<8 by omega),hg,hm]
 refine ⟨o,a,(XX (Qa4 e X hX) k m).1,?_,d2,d3,?_⟩
 ·unfold askE
  rw [if_pos harg,if_neg (by rw [hb'];decide),if_neg (by rw [hh];decide),←d1]
 ·refine LinI.sends d4 (by rw [List.length_set];exact hl) d3 (by rw [d2.2.2.1,hi]) d2.2.2.2 fun j hj=>?_
  simp only [YU hk]
  by_cases hjk:j=k
  ·subst hjk
   simp only [if_true,Y3 hx,and_true]
   refine ⟨rfl,rfl,?_,rfl,rfl⟩
   by_cases h3:m.kd≤3
   ·simp only [h3,if_true]
   ·simp only [h3,if_false];exact (upL_skip hu i (.inr h3)).symm
  ·simp only [hjk,if_false,and_false,and_self]
theorem LinI.upOff (h:LinI co ps cur X i e) (hl:ps.length=co) {k:Nat} {x:Pt} (hx:ps[k]? =some x) {m:Ms} {rest:List Ms} (hu:x.up=m::rest) (hi:m.li≠(i:Int)) {o:Mk} {a:Ms} (ho:∀j:Nat,j<8→hasM o j=true→j<co) (ha:Qdc m.li a):LinI co (XY (ps.set k {x with up:=rest}) (Xf o a)) cur X i e:=by
 have hk:=(Vg hx).1
 refine LinI.sent (h.same fun j hj=>?_) (by rw [List.length_set];exact hl) ho (.inl (by rw [ha.2.2.1];exact hi))
 simp only [YU hk]
 by_cases hjk:j=k
 ·subst hjk
  simp only [if_true,Y3 hx]
  exact ⟨rfl,rfl,(upL_skip hu i (.inl hi)).symm,rfl,rfl⟩
 ·simp only [hjk,if_false,and_self]
theorem LinI.answer (h:LinI co ps cur X i e) (h8:co≤8) (hl:ps.length=co) {k:Nat} {x:Pt} (hx:ps[k]? =some x) {m:Ms} {rest:List Ms} (hu:x.an=m::rest) (hm:Xe m.kd=true) (hg:mg m=true) (hi:m.li=(i:Int)):
 ∃(o:Mk) (a:Ms) (e':En),ansE e k m=((e',Xf o a),0)∧Qdc m.li a∧(∀j:Nat,j<8→hasM o j=true→j<co)∧LinI co (XY (ps.set k {x with an:=rest}) (Xf o a)) cur X i e':=by
 have hk:=(Vg hx).1
 obtain ⟨o,a,d0,d1,d2,d3,d4⟩:=LI.answered h h8 (k:=k) (by omega) hm hg (V:=anL {x with an:=rest} i) (by simp only [Y3 hx];exact anL_cons hu i hi)
 refine ⟨o,a,(ansE e k m).1.1,?_,d2,d3,?_⟩
 ·rw [←d1,←d0]
 ·refine LinI.sends d4 (by rw [List.length_set];exact hl) d3 (by rw [d2.2.2.1,hi]) d2.2.2.2 fun j hj=>?_
  simp only [YU hk]
  by_cases hjk:j=k
  ·subst hjk
   simp only [if_true,Y3 hx]
   exact ⟨rfl,rfl,rfl,trivial,rfl⟩
  ·simp only [hjk,if_false,and_self]
theorem LinI.answerOff (h:LinI co ps cur X i e) (hl:ps.length=co) {k:Nat} {x:Pt} (hx:ps[k]? =some x) {m:Ms} {rest:List Ms} (hu:x.an=m::rest) (hi:m.li≠(i:Int)) {o:Mk} {a:Ms} (ho:∀j:Nat,j<8→hasM o j=true→j<co) (ha:Qdc m.li a):LinI co (XY (ps.set k {x with an:=rest}) (Xf o a)) cur X i e:=by
 have hk:=(Vg hx).1
 refine LinI.sent (h.same fun j hj=>?_) (by rw [List.length_set];exact hl) ho (.inl (by rw [ha.2.2.1];exact hi))
 simp only [YU hk]
 by_cases hjk:j=k
 ·subst hjk
  simp only [if_true,Y3 hx]
  exact ⟨rfl,rfl,rfl,(anL_skip hu i hi).symm,rfl⟩
 ·simp only [hjk,if_false,and_self]
theorem LinI.push (h:LinI co ps cur X i e) (hd:Yb e=true) {X':List Int} (hX:X'=e.l):LinI co ps cur X' i ((XG e).setDi false):=by
 have fit:=push_fit hd
 have hb:e.bu=4∨e.bu=5:=by simp only [Yb,Bool.and_eq_true,Bool.or_eq_true,beq_iff_eq] at hd;exact hd.1.2
 have hw:e.wa=0#8:=by simp only [Yb,Bool.and_eq_true,beq_iff_eq] at hd;exact hd.2
 have hh:e.he=true:=fit.1
 have hg:Xz ((XG e).setDi false)=true:=fit.2.1
 refine ⟨hg,⟨h.lo.1,?_,h.lo.2.2.1,fun j _ h1=>?_⟩,fun j hj=>?_,h.data,fun h1=>absurd (hh.symm.trans h1) (by decide),fun _ _=>hX,fun h1=>absurd (show (0:Int)=1 from h1) (by decide),fun h1=>absurd (show (0:Int)=2 from h1) (by decide)⟩
 ·obtain ⟨p,hp,he⟩:=Y6 (by rcases ((Yo hh).1 h.good).2 with ⟨h1,_⟩|⟨_,h1,_⟩|⟨_,h1⟩;omega;exact h1.1;exact h1.1)
  have:=h.lo.2.1
  show (0:Int)<co
  omega
 ·have h2:hasM 0#8 (j:Int)=true:=h1
  rw [Xa] at h2;cases h2
 ·have hr:=h.rel j hj
  rw [hw,Xa,bOf_fl j hb] at hr
  show Rel cur e.l (ktOf ((XG e).setDi false)) (decide (e.ow=(j:Int))) (hasM e.sh j) (hasM 0#8 j) (bOf ((XG e).setDi false) j) _ _ _ _ _
  rw [Xa,bOf_0 (show ((XG e).setDi false).bu=0 from rfl)]
  exact (hr.anyKt _).1
theorem LinI.drop (h:LinI co ps cur X i e) (hco:1≤co) (hd:Jt e=false) {X':List Int} (hX:X'=e.l):LinI co ps cur X' i enE:=by
 unfold Jt at hd
 simp only [Bool.or_eq_false_iff,Bool.not_eq_false',decide_eq_false_iff_not,bne_eq_false_iff_eq] at hd
 obtain ⟨⟨⟨hh,ho⟩,hs⟩,hb⟩:=hd
 obtain ⟨g1,g2,g3,hr⟩:=LI.free h hh hb
 have hone:e.ow= -1:=by
  rcases g1 with h1|⟨h1,_⟩
  ·exact h1
  ·simp [isC] at h1;omega
 have hc:=h.data hh hone
 refine ⟨rfl,⟨by show (-1:Int)<co;omega,by show (0:Int)<co;omega,fun j _ h1=>?_,fun j _ h1=>?_⟩,fun j hj=>?_,fun h1=>absurd (show false=true from h1) (by decide),fun _=>hX.trans hc,fun h1=>absurd (show false=true from h1) (by decide),fun h1=>absurd (show (0:Int)=1 from h1) (by decide),fun h1=>absurd (show (0:Int)=2 from h1) (by decide)⟩
 ·have h2:hasM 0#8 (j:Int)=true:=h1
  rw [Xa] at h2;cases h2
 ·have h2:hasM 0#8 (j:Int)=true:=h1
  rw [Xa] at h2;cases h2
 ·have h1:=hr j hj
  rw [hone,decide_eq_false (by omega),hs,Xa] at h1
  obtain ⟨_,h3,h4⟩:=h1.none cur enE.l 13
  show Rel cur enE.l 13 (decide ((-1:Int)=(j:Int))) (hasM 0#8 j) (hasM 0#8 j) (bOf enE j) _ _ _ _ _
  rw [decide_eq_false (by omega),Xa,bOf_0 (show enE.bu=0 from rfl),h3]
  exact h4
theorem LinI.mem (h:LinI co ps cur X i e) {X':List Int} (hX:X'=X):LinI co ps cur X' i e:=by subst hX;exact h
end
end
section
structure MDid where
 v:Int
 hit:Bool
 m:Ms
 e:Int
def did0:MDid:=⟨0,false,msZ,0⟩
def didE (e:Int):MDid:=⟨0,false,msZ,e⟩
def lnG (X:List Int) (i:Nat):List Int:=if (ln X i).length=8 then ln X i else zl8
theorem Qai (X:List Int) (i:Nat):(lnG X i).length=8:=by unfold lnG;split<;>first |assumption|rfl
theorem lnG_eq {X:List Int} {i:Nat} (h:(ln X i).length=8):lnG X i=ln X i:=by unfold lnG;rw [if_pos h]
def XL (c:Cg) (S:Mst) (k:Int):Option Pt:=if inB k c.co=true then S.ps[k.toNat]? else none
def Mst.put (S:Mst) (k:Int) (x:Pt):Mst:=⟨S.ps.set k.toNat x,S.en,S.es,S.xs⟩
def loadM (c:Cg) (S:Mst) (k li wd:Int):Mst×MDid:=
 match XL c S k with
 |none=>(S,did0)
 |some x=>if inB li c.li=true then (S.put k {x with s:=(loadF c.se c.wa x.s li wd).1,up:=x.up++(loadF c.se c.wa x.s li wd).2.2.2},⟨(loadF c.se c.wa x.s li wd).2.1,(loadF c.se c.wa x.s li wd).2.2.1,msZ,0⟩) else (S,did0)
def storeM (c:Cg) (S:Mst) (k li wd v:Int):Mst×MDid:=
 match XL c S k with
 |none=>(S,did0)
 |some x=>if inB li c.li=true then (S.put k {x with s:=(storeF c.se c.wa x.s li wd v).1,up:=x.up++(storeF c.se c.wa x.s li wd v).2.2},⟨0,(storeF c.se c.wa x.s li wd v).2.1,msZ,0⟩) else (S,did0)
def reachM (c:Cg) (S:Mst) (k li:Int):Mst×MDid:=
 match XL c S k with
 |none=>(S,did0)
 |some x=>if inB li c.li=true then (if JN x.s.1 li=true then (S,⟨0,true,msZ,0⟩) else (S.put k {x with s:=(reachF c.se c.wa x.s li).1,up:=x.up++(reachF c.se c.wa x.s li).2},did0)) else (S,did0)
def flushM (c:Cg) (S:Mst) (k li kd:Int):Mst×MDid:=
 match XL c S k with
 |none=>(S,didE 1)
 |some x=>if inB li c.li=true∧(kd=4∨kd=5) then (S.put k {x with up:=x.up++[ms4 kd li false false]},did0) else (S,didE 1)
def upM (c:Cg) (S:Mst) (k:Int):Mst×MDid:=
 match XL c S k with
 |none=>(S,didE 1)
 |some x=>match x.up with
  |[]=>(S,didE 14)
  |m::rest=>match S.en[m.li.toNat]? with
   |none=>(S,did0)
   |some e=>if (askE (Qa4 e (lnG S.X m.li.toNat) (Qai _ _)) k m).2=0 then (⟨XY (S.ps.set k.toNat {x with up:=rest}) (askE (Qa4 e (lnG S.X m.li.toNat) (Qai _ _)) k m).1.2,S.en.set m.li.toNat (askE (Qa4 e (lnG S.X m.li.toNat) (Qai _ _)) k m).1.1,S.es,S.xs⟩,did0) else (S,didE (askE (Qa4 e (lnG S.X m.li.toNat) (Qai _ _)) k m).2)
def answerM (c:Cg) (S:Mst) (k:Int):Mst×MDid:=
 match XL c S k with
 |none=>(S,didE 1)
 |some x=>match x.an with
  |[]=>(S,didE 14)
  |m::rest=>match S.en[m.li.toNat]? with
   |none=>(S,did0)
   |some e=>if (ansE e k m).2=0 then (⟨XY (S.ps.set k.toNat {x with an:=rest}) (ansE e k m).1.2,S.en.set m.li.toNat (ansE e k m).1.1,S.es,S.xs⟩,did0) else (S.put k {x with an:=rest},didE (ansE e k m).2)
def hearM (c:Cg) (S:Mst) (k:Int):Mst×MDid:=
 match XL c S k with
 |none=>(S,didE 1)
 |some x=>match x.dn with
  |[]=>(S,didE 14)
  |m::rest=>if (hearF c.se c.wa x.s m).2.2=0 then (S.put k {x with s:=(hearF c.se c.wa x.s m).1,an:=x.an++(hearF c.se c.wa x.s m).2.1,dn:=rest},⟨0,false,m,0⟩) else (S.put k {x with s:=(hearF c.se c.wa x.s m).1,dn:=rest},didE (hearF c.se c.wa x.s m).2.2)
def pushM (c:Cg) (S:Mst) (li:Int):Mst×MDid:=
 if inB li c.li=true then (match S.en[li.toNat]? with
  |none=>(S,did0)
  |some e=>if Yb e=true then (if YX c S.es li.toNat e=0 then (⟨XY S.ps (Xf (bitM e.by_) (ms4 14 li false false)),S.en.set li.toNat ((XG e).setDi false),Ya c S.es li.toNat e,S.xs⟩,did0) else (⟨S.ps,S.en,Ya c S.es li.toNat e,S.xs⟩,didE (YX c S.es li.toNat e))) else (S,didE 16)) else (S,didE 1)
def evictM (c:Cg) (S:Mst) (k li:Int):Mst×MDid:=
 match XL c S k with
 |none=>(S,didE 1)
 |some x=>if inB li c.li=true then (S.put k {x with s:=(evictF c.se c.wa x.s li).1,up:=x.up++(evictF c.se c.wa x.s li).2.1},didE (evictF c.se c.wa x.s li).2.2) else (S,didE 1)
def dropM (c:Cg) (S:Mst) (li:Int):Mst×MDid:=
 if inB li c.li=true then (match S.en[li.toNat]? with
  |none=>(S,did0)
  |some e=>if Jt e=true then (S,didE 16) else (if YX c S.es li.toNat e=0 then (⟨S.ps,S.en.set li.toNat enE,Ya c S.es li.toNat e,S.xs⟩,did0) else (⟨S.ps,S.en,Ya c S.es li.toNat e,S.xs⟩,didE (YX c S.es li.toNat e)))) else (S,didE 1)
def drainM (c:Cg) (S:Mst) (li:Int):Mst×MDid:=
 if inB li c.li=true then (⟨S.ps,S.en,Jl S.es li,Y7 S.xs S.es li⟩,didE (Y1 S.es li)) else (S,didE 1)
def failM (c:Cg) (S:Mst):Mst:=⟨List.replicate c.co (pt0 c),List.replicate c.li enE,[],XE S.X c.vo⟩
def stepM (c:Cg) (S:Mst) (kd co li wd v:Int):Mst×MDid:=
 if kd=0 then loadM c S co li wd else if kd=1 then storeM c S co li wd v else if kd=2 then reachM c S co li else if kd=3 then flushM c S co li (4+v % 2)
 else if kd=4 then upM c S co else if kd=5 then answerM c S co else if kd=6 then hearM c S co else if kd=7 then pushM c S li else if kd=8 then evictM c S co li
 else if kd=9 then dropM c S li else if kd=10 then drainM c S li else if kd=11 then (failM c S,did0) else (S,did0)
def curM (c:Cg) (S:Mst) (kd co li wd v:Int) (cur:Nat→List Int):Nat→List Int:=
 if kd=1 then (if (storeM c S co li wd v).2.hit=true then fun i=>if (i:Int)=li then (cur i).set wd.toNat v else cur i else cur) else if kd=11 then fun i=>ln (failM c S).X i else cur
structure PtI (c:Cg) (n:Nat) (x:Pt):Prop where
 aj:AJ c.se c.wa c.li x.s
 us:x.s.2≤n
 up:x.up.length≤n
 an:x.an.length≤n
 dn:x.dn.length≤n
 fu:∀m∈x.up,mg m=true∧Yc m.kd=true∧m.li<c.li
 fa:∀m∈x.an,mg m=true∧Xe m.kd=true∧m.li<c.li
 fd:∀m∈x.dn,mg m=true∧Z1 m.kd=true∧m.li<c.li
theorem PtI.mono {c:Cg} {n n':Nat} {x:Pt} (h:PtI c n x) (hn:n≤n'):PtI c n' x:=
 ⟨h.aj,by have:=h.us;omega,Nat.le_trans h.up hn,Nat.le_trans h.an hn,Nat.le_trans h.dn hn,h.fu,h.fa,h.fd⟩
structure Inv (c:Cg) (n:Nat) (S:Mst) (cur:Nat→List Int):Prop where
 ok:c.Ok
 co:S.ps.length=c.co
 li:S.en.length=c.li
 xs:S.xs.length=c.li*8
 lie:Lie c.li S.es
 pt:∀j,j<c.co→PtI c n (atP S.ps j)
 ln:∀i e,S.en[i]? =some e→LinI c.co S.ps (cur i) (ln S.X i) i e
theorem mg_line {m:Ms} (h:mg m=true):0≤m.li∧m.li≤63∧JT m.li=true:=by
 simp only [mg,Bool.and_eq_true] at h
 have h2:=h.1.1.1.2
 have:=h2
 simp [JT] at this
 exact ⟨this.1,this.2,h2⟩
section
variable {c:Cg} {n:Nat} {S:Mst} {cur:Nat→List Int} (h:Inv c n S cur)
include h
theorem Inv.lX:S.X.length=c.li*8:=Qaf _ _ h.xs h.lie
theorem Inv.ln8 {i:Nat} (hi:i<c.li):(Go.Proofs.YtadeoflkppiflaaGreatDoor.ln S.X i).length=8:=Qah _ _ (Yu h.lX hi)
theorem Inv.mono {n':Nat} (hn:n≤n'):Inv c n' S cur:=⟨h.ok,h.co,h.li,h.xs,h.lie,fun j hj=>(h.pt j hj).mono hn,h.ln⟩
theorem Inv.port {k:Int} {x:Pt} (hp:XL c S k=some x):∃j:Nat,k=(j:Int)∧j<c.co∧S.ps[j]? =some x∧atP S.ps j=x∧PtI c n x∧inB k c.co=true:=by
 unfold XL at hp
 split at hp
 ·rename_i hb
  have hb':=hb
  unfold inB at hb
  simp at hb
  obtain ⟨j,rfl⟩:∃j:Nat,k=(j:Int):=⟨k.toNat,by omega⟩
  rw [Int.toNat_natCast] at hp
  have:=Y3 hp
  exact ⟨j,rfl,by omega,hp,this,this▸h.pt j (by omega),hb'⟩
 ·cases hp
theorem Inv.portNone {k:Int} (hp:XL c S k=none):inB k c.co=false:=by
 unfold XL at hp
 split at hp
 ·rename_i hb
  unfold inB at hb
  simp at hb
  rw [List.getElem?_eq_none_iff,h.co] at hp
  omega
 ·rename_i hb;simpa using hb
theorem Inv.entry {i:Nat} (hi:i<c.li):∃e,S.en[i]? =some e∧LinI c.co S.ps (cur i) (Go.Proofs.YtadeoflkppiflaaGreatDoor.ln S.X i) i e:=
 ⟨_,List.getElem?_eq_getElem (by rw [h.li];exact hi),h.ln i _ (List.getElem?_eq_getElem (by rw [h.li];exact hi))⟩
theorem Inv.ag {j:Nat} {x:Pt} (hj:j<c.co) (hx:S.ps[j]? =some x) {s':Sta} {ms:List Ms} (ha:Asks c.li x.s s' ms) (haj:AJ c.se c.wa c.li s') (hu:s'.2≤x.s.2+1):Inv c (n+1) (S.put j {x with s:=s',up:=x.up++ms}) cur:=by
 have hk:=(Vg hx).1
 have e0:(S.put (j:Int) {x with s:=s',up:=x.up++ms}).ps=S.ps.set j {x with s:=s',up:=x.up++ms}:=by unfold Mst.put;rw [Int.toNat_natCast]
 have hpx:=Y3 hx▸h.pt j hj
 have hlen:ms.length≤1∧∀m∈ms,mg m=true∧Yc m.kd=true∧m.li<c.li:=by
  rcases ha with ⟨rfl,_⟩|⟨li,h0,hn,ha,_⟩
  ·exact ⟨by simp,fun m hm=>by cases hm⟩
  ·have:=h.ok.li64
   obtain ⟨m,rfl,h1,h2,h3,h4⟩:=ha.msg (by unfold JT;simp;omega)
   exact ⟨by simp,fun a hm=>by rw [List.mem_singleton] at hm;subst hm;exact ⟨h4,h3,by omega⟩⟩
 refine ⟨h.ok,?_,h.li,h.xs,h.lie,fun p hp=>?_,fun i e he=>?_⟩
 ·rw [e0,List.length_set];exact h.co
 ·rw [e0,YU hk]
  split
  ·refine ⟨haj,?_,?_,Nat.le_succ_of_le hpx.an,Nat.le_succ_of_le hpx.dn,?_,hpx.fa,hpx.fd⟩
   ·have:=hpx.us
    show s'.2≤((n+1:Nat):Int)
    omega
   ·show (x.up++ms).length≤n+1
    rw [List.length_append]
    have:=hpx.up
    omega
   ·intro m hm
    rcases List.mem_append.1 hm with h1|h1
    ·exact hpx.fu m h1
    ·exact hlen.2 m h1
  ·exact (h.pt p hp).mono (Nat.le_succ n)
 ·rw [e0]
  exact (h.ln i e he).ag h.ok.li64 hx ha
theorem Inv.write {j:Nat} {x:Pt} (hj:j<c.co) (hx:S.ps[j]? =some x) {s':Sta} {li:Nat} (l':List Int) (hs:(vw x.s li).1=2∨(vw x.s li).1=3) (hv:vw s' li=(3,l')) (ho:∀li',li'≠(li:Int)→vw s' li'=vw x.s li') (haj:AJ c.se c.wa c.li s') (hu:s'.2≤x.s.2+1):
 Inv c (n+1) (S.put j {x with s:=s'}) (fun i=>if i=li then l' else cur i)∧(vw x.s li).2=cur li:=by
 have hk:=(Vg hx).1
 have e0:(S.put (j:Int) {x with s:=s'}).ps=S.ps.set j {x with s:=s'}:=by unfold Mst.put;rw [Int.toNat_natCast]
 have hpx:=Y3 hx▸h.pt j hj
 refine ⟨⟨h.ok,?_,h.li,h.xs,h.lie,fun p hp=>?_,fun i e he=>?_⟩,?_⟩
 ·rw [e0,List.length_set];exact h.co
 ·rw [e0,YU hk]
  split
  ·refine ⟨haj,?_,Nat.le_succ_of_le hpx.up,Nat.le_succ_of_le hpx.an,Nat.le_succ_of_le hpx.dn,hpx.fu,hpx.fa,hpx.fd⟩
   have:=hpx.us
   show s'.2≤((n+1:Nat):Int)
   omega
  ·exact (h.pt p hp).mono (Nat.le_succ n)
 ·rw [e0]
  have hl:=h.ln i e he
  by_cases hi:i=li
  ·subst hi
   rw [if_pos rfl]
   exact (hl.write hj hx l' hs hv).1
  ·rw [if_neg hi]
   exact hl.writeOff hx (ho i (by omega))
 ·have hli:li<c.li:=by
   have:=(hpx.aj.line (li:=(li:Int)) (by omega)).2.1
   omega
  obtain ⟨e,he,hl⟩:=h.entry hli
  exact (hl.write hj hx l' hs hv).2
theorem Inv.flush {j:Nat} {x:Pt} (hj:j<c.co) (hx:S.ps[j]? =some x) {li:Int} (hl:inB li c.li=true) {kd:Int} (hkd:kd=4∨kd=5):Inv c (n+1) (S.put j {x with up:=x.up++[ms4 kd li false false]}) cur∧mg (ms4 kd li false false)=true:=by
 have hk:=(Vg hx).1
 have e0:(S.put (j:Int) {x with up:=x.up++[ms4 kd li false false]}).ps=S.ps.set j {x with up:=x.up++[ms4 kd li false false]}:=by unfold Mst.put;rw [Int.toNat_natCast]
 have hpx:=Y3 hx▸h.pt j hj
 have h64:=h.ok.li64
 unfold inB at hl
 simp at hl
 have hlB:JT li=true:=by unfold JT;simp;omega
 have hmg:mg (ms4 kd li false false)=true:=by rcases hkd with rfl|rfl<;>simp [mg,ms4,Qak,hlB]
 refine ⟨⟨h.ok,?_,h.li,h.xs,h.lie,fun p hp=>?_,fun i e he=>?_⟩,hmg⟩
 ·rw [e0,List.length_set];exact h.co
 ·rw [e0,YU hk]
  split
  ·refine ⟨hpx.aj,?_,?_,Nat.le_succ_of_le hpx.an,Nat.le_succ_of_le hpx.dn,?_,hpx.fa,hpx.fd⟩
   ·have:=hpx.us
    show x.s.2≤((n+1:Nat):Int)
    omega
   ·show (x.up++[ms4 kd li false false]).length≤n+1
    rw [List.length_append]
    have:=hpx.up
    simp;omega
   ·intro m hm
    rcases List.mem_append.1 hm with h1|h1
    ·exact hpx.fu m h1
    ·rw [List.mem_singleton] at h1
     subst h1
     exact ⟨hmg,by rcases hkd with rfl|rfl<;>rfl,hl.2⟩
  ·exact (h.pt p hp).mono (Nat.le_succ n)
 ·rw [e0]
  refine (h.ln i e he).same fun p hp=>?_
  rw [YU hk]
  split
  ·rename_i hpj
   subst hpj
   rw [Y3 hx]
   refine ⟨rfl,rfl,?_,rfl,rfl⟩
   unfold upL
   rw [List.filter_append]
   have:[ms4 kd li false false].filter (fun m=>m.li==(i:Int)&&decide (m.kd≤3))=[]:=by rcases hkd with rfl|rfl<;>simp [ms4]
   rw [this,List.append_nil]
  ·exact ⟨rfl,rfl,rfl,rfl,rfl⟩
omit h in
theorem PtI.sent {c:Cg} {n:Nat} {x:Pt} (h:PtI c n x) {a:Ms} (ha:mg a=true∧Z1 a.kd=true∧a.li<c.li):PtI c (n+1) {x with dn:=x.dn++[a]}:=by
 refine ⟨h.aj,?_,Nat.le_succ_of_le h.up,Nat.le_succ_of_le h.an,?_,h.fu,h.fa,?_⟩
 ·have:=h.us
  show x.s.2≤((n+1:Nat):Int)
  omega
 ·show (x.dn++[a]).length≤n+1
  rw [List.length_append]
  have:=h.dn
  simp;omega
 ·intro m hm
  rcases List.mem_append.1 hm with h1|h1
  ·exact h.fd m h1
  ·rw [List.mem_singleton] at h1;subst h1;exact ha
end
theorem Qer {c:Cg} {n:Nat} {ps:List Pt} (hl:ps.length=c.co) (hp:∀j,j<c.co→PtI c n (atP ps j)) {o:Mk} {a:Ms} (ho:∀j:Nat,j<8→hasM o j=true→j<c.co) (ha:mg a=true∧Z1 a.kd=true∧a.li<c.li):
 (XY ps (Xf o a)).length=c.co∧∀j,j<c.co→PtI c (n+1) (atP (XY ps (Xf o a)) j):=by
 obtain ⟨h1,h2⟩:=Qes o a ps (by rw [hl];exact ho)
 refine ⟨h1.trans hl,fun j hj=>?_⟩
 rw [h2 j (by omega)]
 split
 ·exact (hp j hj).sent ha
 ·exact (hp j hj).mono (Nat.le_succ n)
section
variable {c:Cg} {n:Nat} {S:Mst} {cur:Nat→List Int} (h:Inv c n S cur)
include h
theorem Inv.up {j:Nat} {x:Pt} (hj:j<c.co) (hx:S.ps[j]? =some x) {m:Ms} {rest:List Ms} (hu:x.up=m::rest):∃(i:Nat) (e:En),m.li=(i:Int)∧i<c.li∧S.en[i]? =some e∧
 ((e.bu≠0∧askE (Qa4 e (lnG S.X i) (Qai _ _)) j m=((enZ,[]),15))∨
  (e.bu=0∧∃o a e',askE (Qa4 e (lnG S.X i) (Qai _ _)) j m=((e',Xf o a),0)∧Qdc m.li a∧(∀j:Nat,j<8→hasM o j=true→j<c.co)∧Inv c (n+1) ⟨XY (S.ps.set j {x with up:=rest}) (Xf o a),S.en.set i e',S.es,S.xs⟩ cur)):=by
 have hk:=(Vg hx).1
 have hpx:=Y3 hx▸h.pt j hj
 obtain ⟨m1,m2,m3⟩:=hpx.fu m (by rw [hu];simp)
 obtain ⟨l1,l2,l3⟩:=mg_line m1
 obtain ⟨i,hi⟩:∃i:Nat,m.li=(i:Int):=⟨m.li.toNat,by omega⟩
 have hic:i<c.li:=by omega
 obtain ⟨e,he,hl⟩:=h.entry hic
 refine ⟨i,e,hi,hic,he,?_⟩
 have h8:=h.ln8 hic
 have hG:=lnG_eq h8
 by_cases hb:e.bu=0
 ·obtain ⟨o,a,e',q1,q2,q3,q4⟩:=LinI.up (X:=lnG S.X i) (by rw [hG];exact hl) h.ok.co8 h.co (Qai _ _) hb hx hu m2 m1 hi
  refine .inr ⟨hb,o,a,e',q1,q2,q3,?_⟩
  have hta:mg a=true∧Z1 a.kd=true∧a.li<c.li:=⟨q2.1,q2.2.1,by rw [q2.2.2.1];exact m3⟩
  have hp1:∀p,p<c.co→PtI c n (atP (S.ps.set j {x with up:=rest}) p):=by
   intro p hp
   rw [YU hk]
   split
   ·refine ⟨hpx.aj,hpx.us,?_,hpx.an,hpx.dn,fun a ha=>hpx.fu a (by rw [hu];simp [show a∈rest from ha]),hpx.fa,hpx.fd⟩
    have:=hpx.up
    rw [hu] at this
    simp at this
    show rest.length≤n
    omega
   ·exact h.pt p hp
  obtain ⟨r1,r2⟩:=Qer (by rw [List.length_set];exact h.co) hp1 q3 hta
  refine ⟨h.ok,r1,by rw [List.length_set];exact h.li,h.xs,h.lie,r2,fun p ep hep=>?_⟩
  rw [List.getElem?_set] at hep
  split at hep
  ·rename_i hip
   subst hip
   split at hep
   ·injection hep with hep
    subst hep
    rw [hG] at q4
    exact q4
   ·cases hep
  ·rename_i hip
   exact LinI.upOff (h.ln p ep hep) h.co hx hu (by omega) q3 q2
 ·refine .inl ⟨hb,?_⟩
  have hh:e.he=true:=by
   cases hh:e.he
   ·have he':e=enE:=by
     have:=hl.good
     unfold Xz at this
     rw [if_neg (by simp [hh])] at this
     simpa using this
    rw [he'] at hb;exact absurd rfl hb
   ·rfl
  unfold Qa4
  rw [if_pos hh]
  unfold askE
  have harg:JR e j m=true:=by simp [JR,hl.good,Qas (show j<8 by have:=h.ok.co8;omega),m1,m2]
  rw [if_pos harg,if_pos hb]
theorem Inv.answer {j:Nat} {x:Pt} (hj:j<c.co) (hx:S.ps[j]? =some x) {m:Ms} {rest:List Ms} (hu:x.an=m::rest):∃(i:Nat) (e:En),m.li=(i:Int)∧i<c.li∧S.en[i]? =some e∧
 ∃o a e',ansE e j m=((e',Xf o a),0)∧Qdc m.li a∧(∀j:Nat,j<8→hasM o j=true→j<c.co)∧Inv c (n+1) ⟨XY (S.ps.set j {x with an:=rest}) (Xf o a),S.en.set i e',S.es,S.xs⟩ cur:=by
 have hk:=(Vg hx).1
 have hpx:=Y3 hx▸h.pt j hj
 obtain ⟨m1,m2,m3⟩:=hpx.fa m (by rw [hu];simp)
 obtain ⟨l1,l2,l3⟩:=mg_line m1
 obtain ⟨i,hi⟩:∃i:Nat,m.li=(i:Int):=⟨m.li.toNat,by omega⟩
 have hic:i<c.li:=by omega
 obtain ⟨e,he,hl⟩:=h.entry hic
 refine ⟨i,e,hi,hic,he,?_⟩
 obtain ⟨o,a,e',q1,q2,q3,q4⟩:=LinI.answer hl h.ok.co8 h.co hx hu m2 m1 hi
 refine ⟨o,a,e',q1,q2,q3,?_⟩
 have hta:mg a=true∧Z1 a.kd=true∧a.li<c.li:=⟨q2.1,q2.2.1,by rw [q2.2.2.1];exact m3⟩
 have hp1:∀p,p<c.co→PtI c n (atP (S.ps.set j {x with an:=rest}) p):=by
  intro p hp
  rw [YU hk]
  split
  ·refine ⟨hpx.aj,hpx.us,hpx.up,?_,hpx.dn,hpx.fu,fun a ha=>hpx.fa a (by rw [hu];simp [show a∈rest from ha]),hpx.fd⟩
   have:=hpx.an
   rw [hu] at this
   simp at this
   show rest.length≤n
   omega
  ·exact h.pt p hp
 obtain ⟨r1,r2⟩:=Qer (by rw [List.length_set];exact h.co) hp1 q3 hta
 refine ⟨h.ok,r1,by rw [List.length_set];exact h.li,h.xs,h.lie,r2,fun p ep hep=>?_⟩
 rw [List.getElem?_set] at hep
 split at hep
 ·rename_i hip
  subst hip
  split at hep
  ·injection hep with hep
   subst hep
   exact q4
  ·cases hep
 ·rename_i hip
  exact LinI.answerOff (h.ln p ep hep) h.co hx hu (by omega) q3 q2
theorem Inv.hear {j:Nat} {x:Pt} (hj:j<c.co) (hx:S.ps[j]? =some x) {m:Ms} {rest:List Ms} (hd:x.dn=m::rest):tb m.kd (vw x.s m.li).1≠0∧(hearF c.se c.wa x.s m).2.2=0∧(hearF c.se c.wa x.s m).2.1.length≤1∧(∀a∈(hearF c.se c.wa x.s m).2.1,mg a=true)∧
 Inv c (n+1) (S.put j {x with s:=(hearF c.se c.wa x.s m).1,an:=x.an++(hearF c.se c.wa x.s m).2.1,dn:=rest}) cur:=by
 have hk:=(Vg hx).1
 have hpx:=Y3 hx▸h.pt j hj
 obtain ⟨m1,m2,m3⟩:=hpx.fd m (by rw [hd];simp)
 obtain ⟨l1,l2,l3⟩:=mg_line m1
 obtain ⟨i,hi⟩:∃i:Nat,m.li=(i:Int):=⟨m.li.toNat,by omega⟩
 have hic:i<c.li:=by omega
 obtain ⟨e,he,hl⟩:=h.entry hic
 have ht:=hl.fits hj hx hpx.aj hd hi
 have hg:(mg m&&Z1 m.kd)=true:=by rw [m1,m2];rfl
 obtain ⟨a1,a2,_⟩:=hpx.aj.hearF hg m3 ht
 have hav:(Z8 m.kd (Qn x.s.1 m.li) (tb m.kd (vw x.s m.li).1)).length≤1∧∀a∈Z8 m.kd (Qn x.s.1 m.li) (tb m.kd (vw x.s m.li).1),mg a=true∧Xe a.kd=true∧a.li<c.li:=by
  by_cases h14:m.kd=14
  ·rw [h14];exact ⟨Nat.zero_le _,fun a ha=>by cases ha⟩
  ·have hl:=(hpx.aj.line (tb_line ht h14)).2.2.1
   have hto:∀kd ke,((kd=6∧ke=false)∨kd=7)→mg (Yf kd (Qn x.s.1 m.li) ke)=true∧Xe (Yf kd (Qn x.s.1 m.li) ke).kd=true∧(Yf kd (Qn x.s.1 m.li) ke).li<c.li:=by
    intro kd ke hk
    unfold Yf
    split
    ·refine ⟨?_,by rcases hk with ⟨rfl,_⟩|rfl<;>rfl,by show (Qn x.s.1 m.li).li<c.li;omega⟩
     rcases hk with ⟨rfl,rfl⟩|rfl<;>simp [mg,Qak,mayD,mayK,hl,l3]
    ·refine ⟨?_,by rcases hk with ⟨rfl,_⟩|rfl<;>rfl,by show (Qn x.s.1 m.li).li<c.li;omega⟩
     rcases hk with ⟨rfl,rfl⟩|rfl<;>simp [mg,ms4,Qak,mayD,mayK,hl,l3]
   unfold Z8
   split
   ·exact ⟨by simp,fun a ha=>by rw [List.mem_singleton] at ha;subst ha;exact hto 6 false (.inl ⟨rfl,rfl⟩)⟩
   ·split
    ·exact ⟨by simp,fun a ha=>by rw [List.mem_singleton] at ha;subst ha;exact hto 7 _ (.inr rfl)⟩
    ·exact ⟨by simp,fun a ha=>by cases ha⟩
 rw [show (hearF c.se c.wa x.s m).2.1=Z8 m.kd (Qn x.s.1 m.li) (tb m.kd (vw x.s m.li).1) by rw [a2]]
 refine ⟨ht,by rw [a2],hav.1,fun a ha=>(hav.2 a ha).1,?_⟩
 generalize hAV:Z8 m.kd (Qn x.s.1 m.li) (tb m.kd (vw x.s m.li).1)=av at hav
 have e0:(S.put (j:Int) {x with s:=(hearF c.se c.wa x.s m).1,an:=x.an++av,dn:=rest}).ps=S.ps.set j {x with s:=(hearF c.se c.wa x.s m).1,an:=x.an++av,dn:=rest}:=by unfold Mst.put;rw [Int.toNat_natCast]
 refine ⟨h.ok,?_,h.li,h.xs,h.lie,fun p hp=>?_,fun p ep hep=>?_⟩
 ·rw [e0,List.length_set];exact h.co
 ·rw [e0,YU hk]
  split
  ·refine ⟨a1,?_,Nat.le_succ_of_le hpx.up,?_,?_,hpx.fu,?_,fun a ha=>hpx.fd a (by rw [hd];simp [show a∈rest from ha])⟩
   ·have:=(hearF_u (S:=c.se) (N:=c.wa) (s:=x.s) (m:=m)).2
    have:=hpx.us
    show (hearF c.se c.wa x.s m).1.2≤((n+1:Nat):Int)
    omega
   ·show (x.an++av).length≤n+1
    rw [List.length_append]
    have:=hpx.an
    omega
   ·have:=hpx.dn
    rw [hd] at this
    simp at this
    show rest.length≤n+1
    omega
   ·intro a ha
    rcases List.mem_append.1 ha with h1|h1
    ·exact hpx.fa a h1
    ·exact hav.2 a h1
  ·exact (h.pt p hp).mono (Nat.le_succ n)
 ·rw [e0,←hAV]
  exact (h.ln p ep hep).hear hx hpx.aj hd hg m3 ht
theorem Inv.saved {i:Nat} (hi:i<c.li) (e:En):(YX c S.es i e=0∨YX c S.es i e=13)∧(YX c S.es i e≠0→Ya c S.es i e=S.es)∧(YX c S.es i e=0→Lie c.li (Ya c S.es i e)∧over S.xs (Ya c S.es i e)=if e.di=true then YL S.X i e.l else S.X):=by
 have h0:(0:Int)≤(i:Int)∧(i:Int)<(c.li:Int):=by omega
 unfold YX Ya Yt Qap
 rw [if_pos h0,if_pos h0]
 cases hd:e.di
 ·simp only [Bool.false_eq_true,if_false]
  exact ⟨.inl trivial,fun h=>absurd rfl h,fun _=>⟨h.lie,rfl⟩⟩
 ·simp only [if_true]
  by_cases hr:c.qu≤S.es.length
  ·rw [if_pos hr,if_pos hr]
   exact ⟨.inr rfl,fun _=>rfl,fun h=>absurd h (by decide)⟩
  ·rw [if_neg hr,if_neg hr]
   refine ⟨.inl rfl,fun h=>absurd rfl h,fun _=>⟨h.lie.snoc (by rw [Int.toNat_natCast];exact hi),?_⟩⟩
   rw [Qd3,Int.toNat_natCast];rfl
theorem Inv.push {i:Nat} {e:En} (hi:i<c.li) (he:S.en[i]? =some e) (hr:Yb e=true):isC e.by_=true∧e.by_<c.co∧mg (ms4 14 i false false)=true∧(YX c S.es i e=0→Inv c (n+1) ⟨XY S.ps (Xf (bitM e.by_) (ms4 14 i false false)),S.en.set i ((XG e).setDi false),Ya c S.es i e,S.xs⟩ cur):=by
 have hl:=h.ln i e he
 have h64:=h.ok.li64
 have fit:=push_fit hr
 have hh:e.he=true:=fit.1
 have hlB:JT (i:Int)=true:=by unfold JT;simp;omega
 have hmg:mg (ms4 14 (i:Int) false false)=true:=by simp [mg,ms4,Qak,hlB]
 have hbu:e.bu=4∨e.bu=5:=by simp only [Yb,Bool.and_eq_true,Bool.or_eq_true,beq_iff_eq] at hr;exact hr.1.2
 have hC:isC e.by_=true:=by
  rcases ((Yo hh).1 hl.good).2 with ⟨h1,_⟩|⟨_,h1,_⟩|⟨_,h1⟩
  ·omega
  ·exact h1.1
  ·exact h1.1
 refine ⟨hC,hl.lo.2.1,hmg,fun hv=>?_⟩
 obtain ⟨_,_,s3⟩:=h.saved hi e
 obtain ⟨s4,s5⟩:=s3 hv
 obtain ⟨p,hp,hpe⟩:=Y6 hC
 have hob:∀j:Nat,j<8→hasM (bitM e.by_) j=true→j<c.co:=by
  intro j _ hj
  rw [Yd _ hC,decide_eq_true_eq] at hj
  have:=hl.lo.2.1
  omega
 obtain ⟨r1,r2⟩:=Qer h.co h.pt hob (a:=ms4 14 (i:Int) false false) ⟨hmg,rfl,by show (i:Int)<c.li;omega⟩
 refine ⟨h.ok,r1,by rw [List.length_set];exact h.li,h.xs,s4,r2,fun q eq heq=>?_⟩
 have eX:(Mst.mk (XY S.ps (Xf (bitM e.by_) (ms4 14 (i:Int) false false))) (S.en.set i ((XG e).setDi false)) (Ya c S.es i e) S.xs).X=if e.di=true then YL S.X i e.l else S.X:=s5
 rw [eX]
 rw [List.getElem?_set] at heq
 split at heq
 ·rename_i hiq
  subst hiq
  split at heq
  ·injection heq with heq
   subst heq
   refine LinI.sent (hl.push hr ?_) h.co hob (.inr rfl)
   split
   ·exact Qdi _ _ _ (Yu h.lX hi) e.h
   ·rename_i hd
    exact hl.mem1 hh (by simpa using hd)
  ·cases heq
 ·rename_i hiq
  refine LinI.sent ((h.ln q eq heq).mem ?_) h.co hob (.inr rfl)
  split
  ·exact Qcg _ _ _ _ (Yu h.lX hi) e.h hiq
  ·rfl
theorem Inv.drop {i:Nat} {e:En} (hi:i<c.li) (he:S.en[i]? =some e) (hr:Jt e=false) (hv:YX c S.es i e=0):Inv c (n+1) ⟨S.ps,S.en.set i enE,Ya c S.es i e,S.xs⟩ cur:=by
 have hl:=h.ln i e he
 have hh:e.he=true:=by
  unfold Jt at hr
  simp only [Bool.or_eq_false_iff,Bool.not_eq_false'] at hr
  exact hr.1.1.1
 obtain ⟨_,_,s3⟩:=h.saved hi e
 obtain ⟨s4,s5⟩:=s3 hv
 refine ⟨h.ok,h.co,by rw [List.length_set];exact h.li,h.xs,s4,fun j hj=>(h.pt j hj).mono (Nat.le_succ n),fun q eq heq=>?_⟩
 have eX:(Mst.mk S.ps (S.en.set i enE) (Ya c S.es i e) S.xs).X=if e.di=true then YL S.X i e.l else S.X:=s5
 rw [eX]
 rw [List.getElem?_set] at heq
 split at heq
 ·rename_i hiq
  subst hiq
  split at heq
  ·injection heq with heq
   subst heq
   refine hl.drop h.ok.co1 hr ?_
   split
   ·exact Qdi _ _ _ (Yu h.lX hi) e.h
   ·rename_i hd
    exact hl.mem1 hh (by simpa using hd)
  ·cases heq
 ·rename_i hiq
  refine (h.ln q eq heq).mem ?_
  split
  ·exact Qcg _ _ _ _ (Yu h.lX hi) e.h hiq
  ·rfl
theorem Inv.drain (li:Int):Inv c (n+1) ⟨S.ps,S.en,Jl S.es li,Y7 S.xs S.es li⟩ cur:=by
 have hx:Lie c.li (Jl S.es li)∧(Y7 S.xs S.es li).length=c.li*8∧over (Y7 S.xs S.es li) (Jl S.es li)=S.X:=by
  by_cases hf:JD S.es li<S.es.length
  ·obtain ⟨e,he,hp,hb⟩:=Qe4 hf
   refine ⟨h.lie.sub (fun x hx=>List.mem_of_mem_eraseIdx hx),?_,?_⟩
   ·unfold Y7
    rw [he]
    show (YL S.xs e.pos e.l).length=_
    rw [Yn _ _ _ (Yu h.xs (h.lie.get he)) e.h]
    exact h.xs
   ·unfold Y7 Jl
    rw [he]
    exact over_drain S.xs h.xs h.lie he (fun x hx=>by have:=hb x hx;omega)
  ·unfold Jl Y7
   rw [List.eraseIdx_of_length_le (by omega),List.getElem?_eq_none (by omega)]
   exact ⟨h.lie,h.xs,rfl⟩
 refine ⟨h.ok,h.co,h.li,hx.2.1,hx.1,fun j hj=>(h.pt j hj).mono (Nat.le_succ n),fun q eq heq=>?_⟩
 have eX:(Mst.mk S.ps S.en (Jl S.es li) (Y7 S.xs S.es li)).X=S.X:=hx.2.2
 rw [eX]
 exact h.ln q eq heq
end
theorem Inv.fresh (c:Cg) (hc:c.Ok) (xs:List Int) (hx:xs.length=c.li*8):Inv c 0 ⟨List.replicate c.co (pt0 c),List.replicate c.li enE,[],xs⟩ (fun i=>Go.Proofs.YtadeoflkppiflaaGreatDoor.ln xs i):=by
 have hgood:Good c.se c.wa (List.replicate (c.se*c.wa) sltZ):=by
  have:=hc.new
  unfold YQ at this
  exact Good.new (by omega) (by omega) (by omega)
 have haj:AJ c.se c.wa c.li (st0 c):=⟨OnceAt.new hgood,Sane.new _,Int.le_refl 0,fun x hx h0=>by rw [List.eq_of_mem_replicate hx] at h0;exact absurd rfl h0⟩
 have hat:∀j,j<c.co→atP (List.replicate c.co (pt0 c)) j=pt0 c:=fun j hj=>Y3 (by rw [List.getElem?_replicate,if_pos hj])
 have hfind:∀li,Qn (st0 c).1 li=sltZ:=fun li=>Qck (fun x hx=>by rw [List.eq_of_mem_replicate hx];rfl)
 refine ⟨hc,by simp,by simp,hx,Lie.nil _,fun j hj=>?_,fun i e he=>?_⟩
 ·rw [hat j hj]
  exact ⟨haj,Int.le_refl 0,Nat.le_refl 0,Nat.le_refl 0,Nat.le_refl 0,fun m hm=>(by cases hm),fun m hm=>(by cases hm),fun m hm=>(by cases hm)⟩
 ·rw [List.getElem?_replicate] at he
  split at he
  ·injection he with he
   subst he
   refine ⟨rfl,⟨by show (-1:Int)<c.co;omega,by show (0:Int)<c.co;have:=hc.co1;omega,fun j _ h1=>?_,fun j _ h1=>?_⟩,fun j hj=>?_,fun h1=>absurd (show false=true from h1) (by decide),fun _=>rfl,fun h1=>absurd (show false=true from h1) (by decide),fun h1=>absurd (show (0:Int)=1 from h1) (by decide),fun h1=>absurd (show (0:Int)=2 from h1) (by decide)⟩
   ·have h2:hasM 0#8 (j:Int)=true:=h1
    rw [Xa] at h2;cases h2
   ·have h2:hasM 0#8 (j:Int)=true:=h1
    rw [Xa] at h2;cases h2
   ·simp only [hat j hj]
    have e1:vst (pt0 c) i=0:=by unfold vst vw;rw [show (pt0 c).s=st0 c from rfl,hfind];rfl
    rw [e1,bOf_0 (show enE.bu=0 from rfl)]
    show Rel _ _ _ (decide ((-1:Int)=(j:Int))) (hasM 0#8 j) (hasM 0#8 j) 0 0 _ [] [] []
    rw [decide_eq_false (by omega),Xa]
    exact .base (.i _)
  ·cases he
end
section
theorem Asks.msgs {n:Nat} {s s':Sta} {ms:List Ms} (h:Asks n s s' ms) (hn:n≤64):ms.length≤1∧∀m∈ms,mg m=true:=by
 rcases h with ⟨rfl,_⟩|⟨li,h0,hl,ha,_⟩
 ·exact ⟨Nat.zero_le _,fun m hm=>by cases hm⟩
 ·obtain ⟨m,rfl,_,_,_,h4⟩:=ha.msg (by unfold JT;simp;omega)
  exact ⟨Nat.le_refl 1,fun a hm=>by rw [List.mem_singleton] at hm;subst hm;exact h4⟩
theorem XW {k:Int} {n:Nat}:inB k n=true↔0≤k∧k<n:=by unfold inB;simp
section
variable {c:Cg} {n:Nat} {S:Mst} {cur:Nat→List Int} (h:Inv c n S cur)
include h
theorem Inv.next:Inv c (n+1) S cur:=h.mono (Nat.le_succ n)
theorem Inv.loadM (k li wd:Int):Inv c (n+1) (loadM c S k li wd).1 cur:=by
 unfold Go.Proofs.YtadeoflkppiflaaGreatDoor.loadM
 cases hp:XL c S k with
 |none=>exact h.next
 |some x=>
  obtain ⟨j,rfl,hj,hx,_,hP,_⟩:=h.port hp
  dsimp only
  split
  ·rename_i hl
   obtain ⟨a,b,_⟩:=hP.aj.loadF (XW.1 hl).2 wd
   exact h.ag hj hx b a loadF_u.2
  ·exact h.next
theorem Inv.reachM (k li:Int):Inv c (n+1) (reachM c S k li).1 cur:=by
 unfold Go.Proofs.YtadeoflkppiflaaGreatDoor.reachM
 cases hp:XL c S k with
 |none=>exact h.next
 |some x=>
  obtain ⟨j,rfl,hj,hx,_,hP,_⟩:=h.port hp
  dsimp only
  split
  ·rename_i hl
   split
   ·exact h.next
   ·obtain ⟨a,b⟩:=hP.aj.reachF (XW.1 hl).2
    exact h.ag hj hx b a reachF_u.2
  ·exact h.next
theorem Inv.evictM (k li:Int):Inv c (n+1) (evictM c S k li).1 cur:=by
 unfold Go.Proofs.YtadeoflkppiflaaGreatDoor.evictM
 cases hp:XL c S k with
 |none=>exact h.next
 |some x=>
  obtain ⟨j,rfl,hj,hx,_,hP,_⟩:=h.port hp
  dsimp only
  split
  ·obtain ⟨a,b⟩:=hP.aj.evictF li
   exact h.ag hj hx b a evictF_u.2
  ·exact h.next
theorem Inv.flushM (k li kd:Int):Inv c (n+1) (flushM c S k li kd).1 cur:=by
 unfold Go.Proofs.YtadeoflkppiflaaGreatDoor.flushM
 cases hp:XL c S k with
 |none=>exact h.next
 |some x=>
  obtain ⟨j,rfl,hj,hx,_,hP,_⟩:=h.port hp
  dsimp only
  split
  ·rename_i hl
   exact (h.flush hj hx hl.1 hl.2).1
  ·exact h.next
theorem Inv.storeM (k li wd v:Int):Inv c (n+1) (storeM c S k li wd v).1 (if (storeM c S k li wd v).2.hit=true then fun i=>if (i:Int)=li then (cur i).set wd.toNat v else cur i else cur)∧((storeM c S k li wd v).2.hit=true→inB k c.co=true∧inB li c.li=true∧isWd wd=true):=by
 cases hp:XL c S k with
 |none=>
  have e:Go.Proofs.YtadeoflkppiflaaGreatDoor.storeM c S k li wd v=(S,did0):=by unfold Go.Proofs.YtadeoflkppiflaaGreatDoor.storeM;rw [hp]
  rw [e]
  exact ⟨h.next,fun h=>by cases h⟩
 |some x=>
  obtain ⟨j,rfl,hj,hx,_,hP,hb⟩:=h.port hp
  by_cases hl:inB li c.li=true
  ·have e:Go.Proofs.YtadeoflkppiflaaGreatDoor.storeM c S j li wd v=(S.put j {x with s:=(storeF c.se c.wa x.s li wd v).1,up:=x.up++(storeF c.se c.wa x.s li wd v).2.2},⟨0,(storeF c.se c.wa x.s li wd v).2.1,msZ,0⟩):=by
    unfold Go.Proofs.YtadeoflkppiflaaGreatDoor.storeM;rw [hp];exact if_pos hl
   rw [e]
   dsimp only
   obtain ⟨l0,ln⟩:=XW.1 hl
   obtain ⟨i,rfl⟩:∃i:Nat,li=(i:Int):=⟨li.toNat,by omega⟩
   obtain ⟨a,⟨b1,b2,_,b3,b4,b5,b6⟩|⟨b1,b2⟩⟩:=hP.aj.storeF ln wd v
   ·rw [b1,b4,List.append_nil,if_pos rfl]
    refine ⟨?_,fun _=>⟨hb,hl,b2⟩⟩
    obtain ⟨q1,q2⟩:=h.write hj hx ((vw x.s i).2.set wd.toNat v) b3 b5 b6 a storeF_u.2
    rw [q2] at q1
    have e:(fun p:Nat=>if (p:Int)=(i:Int) then (cur p).set wd.toNat v else cur p)=fun p=>if p=i then (cur i).set wd.toNat v else cur p:=by
     funext p
     by_cases hpi:p=i
     ·subst hpi;rw [if_pos rfl,if_pos rfl]
     ·rw [if_neg (by omega),if_neg hpi]
    rw [e]
    exact q1
   ·rw [b1]
    exact ⟨h.ag hj hx b2 a storeF_u.2,fun h=>by cases h⟩
  ·have e:Go.Proofs.YtadeoflkppiflaaGreatDoor.storeM c S j li wd v=(S,did0):=by unfold Go.Proofs.YtadeoflkppiflaaGreatDoor.storeM;rw [hp];exact if_neg hl
   rw [e]
   exact ⟨h.next,fun h=>by cases h⟩
theorem Inv.upM (k:Int):Inv c (n+1) (upM c S k).1 cur∧(inB k c.co=true→(upM c S k).2.e=0∨(upM c S k).2.e=14∨(upM c S k).2.e=15):=by
 unfold Go.Proofs.YtadeoflkppiflaaGreatDoor.upM
 cases hp:XL c S k with
 |none=>exact ⟨h.next,fun hb=>absurd (hb.symm.trans (h.portNone hp)) (by decide)⟩
 |some x=>
  obtain ⟨j,rfl,hj,hx,_,hP,hb⟩:=h.port hp
  dsimp only
  cases hu:x.up with
  |nil=>exact ⟨h.next,fun _=>.inr (.inl rfl)⟩
  |cons m rest=>
   obtain ⟨i,e,hi,hic,he,hc⟩:=h.up hj hx hu
   have ei:i=m.li.toNat:=by omega
   subst ei
   dsimp only
   rw [he]
   dsimp only
   rcases hc with ⟨_,h2⟩|⟨_,o,a,e',h2,_,_,h3⟩
   ·rw [h2,if_neg (by decide)]
    exact ⟨h.next,fun _=>.inr (.inr rfl)⟩
   ·rw [h2,if_pos rfl]
    exact ⟨h3,fun _=>.inl rfl⟩
theorem Inv.answerM (k:Int):Inv c (n+1) (answerM c S k).1 cur∧(inB k c.co=true→(answerM c S k).2.e=0∨(answerM c S k).2.e=14):=by
 unfold Go.Proofs.YtadeoflkppiflaaGreatDoor.answerM
 cases hp:XL c S k with
 |none=>exact ⟨h.next,fun hb=>absurd (hb.symm.trans (h.portNone hp)) (by decide)⟩
 |some x=>
  obtain ⟨j,rfl,hj,hx,_,hP,hb⟩:=h.port hp
  dsimp only
  cases hu:x.an with
  |nil=>exact ⟨h.next,fun _=>.inr rfl⟩
  |cons m rest=>
   obtain ⟨i,e,hi,hic,he,o,a,e',h2,_,_,h3⟩:=h.answer hj hx hu
   dsimp only
   rw [hi,Int.toNat_natCast,he]
   dsimp only
   rw [h2,if_pos rfl]
   exact ⟨h3,fun _=>.inl rfl⟩
end
theorem find_live (xs:List Slt) (li:Int):Qn xs li=((live xs).find? (fun x=>x.li==li)).getD sltZ:=by
 unfold live
 rw [List.find?_filter]
 have e:(fun a:Slt=>decide ((a.st !=0)=true∧(a.li==li)=true))=Xv li:=by
  funext a;unfold Xv;by_cases h1:a.st=0<;>by_cases h2:a.li=li<;>simp [h1,h2]
 rw [e]
 rcases JL xs li with ⟨_,h2,h3⟩|⟨h1,h3,h2⟩
 ·unfold Qn
  unfold Xt at h3
  have hlt:=of_decide_eq_true h3
  have:=List.findIdx_getElem (w:=hlt)
  rw [List.getElem?_eq_getElem hlt]
  have h4:xs.find? (Xv li)=some xs[xs.findIdx (Xv li)]:=by
   rw [List.find?_eq_some_iff_getElem]
   refine ⟨this,xs.findIdx (Xv li),hlt,rfl,fun j hj=>?_⟩
   have:=List.not_of_lt_findIdx hj
   simpa using this
  rw [h4];rfl
 ·rw [h1]
  have:xs.find? (Xv li)=none:=by
   rw [List.find?_eq_none]
   intro x hx
   rw [h2 x hx];decide
  rw [this];rfl
theorem tb_ne (kd st:Int) (h14:kd≠14) (h:tb kd st≠0):(tb kd st=10∧st≠0)∨(tb kd st≠10∧tb kd st≠11∧tb kd st≠st):=by
 unfold tb at *
 repeat' split at h
 all_goals first |omega|simp_all
 all_goals omega
section
variable {c:Cg} {n:Nat} {S:Mst} {cur:Nat→List Int} (h:Inv c n S cur)
include h
theorem Inv.hearM (k:Int):Inv c (n+1) (hearM c S k).1 cur∧(inB k c.co=true→(hearM c S k).2.e=0∨(hearM c S k).2.e=14)∧
 (inB k c.co=true→(hearM c S k).2.e=0→(hearM c S k).2.m.kd≠14→live (atP (hearM c S k).1.ps k.toNat).s.1≠live (atP S.ps k.toNat).s.1):=by
 unfold Go.Proofs.YtadeoflkppiflaaGreatDoor.hearM
 cases hp:XL c S k with
 |none=>exact ⟨h.next,fun hb=>absurd (hb.symm.trans (h.portNone hp)) (by decide),fun hb=>absurd (hb.symm.trans (h.portNone hp)) (by decide)⟩
 |some x=>
  obtain ⟨j,rfl,hj,hx,hat,hP,hb⟩:=h.port hp
  dsimp only
  cases hd:x.dn with
  |nil=>exact ⟨h.next,fun _=>.inr rfl,fun _ he=>absurd (show (14:Int)=0 from he) (by decide)⟩
  |cons m rest=>
   obtain ⟨ht,h2,_,_,h3⟩:=h.hear hj hx hd
   dsimp only
   rw [if_pos h2]
   refine ⟨h3,fun _=>.inl rfl,fun _ _ h14 hl=>?_⟩
   rw [Int.toNat_natCast] at hl
   have hk:=(Vg hx).1
   have e0:(S.put (j:Int) {x with s:=(hearF c.se c.wa x.s m).1,an:=x.an++(hearF c.se c.wa x.s m).2.1,dn:=rest}).ps=S.ps.set j {x with s:=(hearF c.se c.wa x.s m).1,an:=x.an++(hearF c.se c.wa x.s m).2.1,dn:=rest}:=by unfold Mst.put;rw [Int.toNat_natCast]
   dsimp only at hl h14
   rw [e0,YU hk,if_pos rfl,hat] at hl
   obtain ⟨m1,m2,m3⟩:=hP.fd m (by rw [hd];simp)
   have hg:(mg m&&Z1 m.kd)=true:=by rw [m1,m2];rfl
   obtain ⟨_,_,_,v10,_,vno⟩:=hP.aj.hearF hg m3 ht
   have hv:(vw (hearF c.se c.wa x.s m).1 m.li).1=(vw x.s m.li).1:=by
    unfold vw
    rw [find_live,find_live (x.s.1),hl]
   rcases tb_ne m.kd _ h14 ht with ⟨q1,q2⟩|⟨q1,q2,q3⟩
   ·rw [v10 q1] at hv;exact q2 hv.symm
   ·rw [vno q1 q2] at hv;exact q3 hv
theorem Inv.pushM (li:Int):Inv c (n+1) (pushM c S li).1 cur:=by
 unfold Go.Proofs.YtadeoflkppiflaaGreatDoor.pushM
 split
 ·rename_i hl
  obtain ⟨l0,ln⟩:=XW.1 hl
  obtain ⟨i,rfl⟩:∃i:Nat,li=(i:Int):=⟨li.toNat,by omega⟩
  rw [Int.toNat_natCast]
  obtain ⟨e,he,_⟩:=h.entry (i:=i) (by omega)
  rw [he]
  dsimp only
  by_cases hr:Yb e=true
  ·rw [if_pos hr]
   by_cases hv:YX c S.es i e=0
   ·rw [if_pos hv];exact (h.push (by omega) he hr).2.2.2 hv
   ·rw [if_neg hv]
    dsimp only
    rw [(h.saved (show i<c.li by omega) e).2.1 hv]
    exact h.next
  ·rw [if_neg hr];exact h.next
 ·exact h.next
theorem Inv.dropM (li:Int):Inv c (n+1) (dropM c S li).1 cur:=by
 unfold Go.Proofs.YtadeoflkppiflaaGreatDoor.dropM
 split
 ·rename_i hl
  obtain ⟨l0,ln⟩:=XW.1 hl
  obtain ⟨i,rfl⟩:∃i:Nat,li=(i:Int):=⟨li.toNat,by omega⟩
  rw [Int.toNat_natCast]
  obtain ⟨e,he,_⟩:=h.entry (i:=i) (by omega)
  rw [he]
  dsimp only
  by_cases hr:Jt e=true
  ·rw [if_pos hr];exact h.next
  ·rw [if_neg hr]
   by_cases hv:YX c S.es i e=0
   ·rw [if_pos hv];exact h.drop (by omega) he (by simpa using hr) hv
   ·rw [if_neg hv]
    dsimp only
    rw [(h.saved (show i<c.li by omega) e).2.1 hv]
    exact h.next
 ·exact h.next
theorem Inv.drainM (li:Int):Inv c (n+1) (drainM c S li).1 cur:=by
 unfold Go.Proofs.YtadeoflkppiflaaGreatDoor.drainM
 split
 ·exact h.drain li
 ·exact h.next
theorem Inv.failM:Inv c (n+1) (failM c S) (fun i=>Go.Proofs.YtadeoflkppiflaaGreatDoor.ln (failM c S).X i):=by
 refine (Inv.fresh c h.ok (XE S.X c.vo) ?_).mono (Nat.zero_le _)
 rw [Jv _ _ (by rw [h.lX];have:=h.ok.vol;omega)]
 exact h.lX
theorem Inv.step (kd co li wd v:Int):Inv c (n+1) (stepM c S kd co li wd v).1 (curM c S kd co li wd v cur):=by
 unfold stepM curM
 by_cases h0:kd=0
 ·subst h0;exact h.loadM co li wd
 rw [if_neg h0]
 by_cases h1:kd=1
 ·subst h1;exact (h.storeM co li wd v).1
 rw [if_neg h1,if_neg h1]
 by_cases h2:kd=2
 ·subst h2;exact h.reachM co li
 rw [if_neg h2]
 by_cases h3:kd=3
 ·subst h3;exact h.flushM co li _
 rw [if_neg h3]
 by_cases h4:kd=4
 ·subst h4;exact (h.upM co).1
 rw [if_neg h4]
 by_cases h5:kd=5
 ·subst h5;exact (h.answerM co).1
 rw [if_neg h5]
 by_cases h6:kd=6
 ·subst h6;exact (h.hearM co).1
 rw [if_neg h6]
 by_cases h7:kd=7
 ·subst h7;exact h.pushM li
 rw [if_neg h7]
 by_cases h8:kd=8
 ·subst h8;exact h.evictM co li
 rw [if_neg h8]
 by_cases h9:kd=9
 ·subst h9;exact h.dropM li
 rw [if_neg h9]
 by_cases h10:kd=10
 ·subst h10;exact h.drainM li
 rw [if_neg h10]
 by_cases h11:kd=11
 ·subst h11;exact h.failM
 rw [if_neg h11,if_neg h11]
 exact h.next
end
end
end Go.Proofs.YtadeoflkppiflaaGreatDoor
