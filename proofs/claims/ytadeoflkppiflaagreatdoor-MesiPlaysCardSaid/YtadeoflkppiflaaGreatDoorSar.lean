/- Texts of the walk, one behind the other: Dirr Dirs Dirt. No condition. -/
import Derived.Test.YtadeoflkppiflaaGreatDoorSaa
import Derived.Test.YtadeoflkppiflaaGreatDoorSac
import Derived.Test.YtadeoflkppiflaaGreatDoorSag
import Derived.BigQuiet
import Derived.Deep.Cut
import Derived.Deep.CutBlock
import Derived.Deep.CutRange
import Derived.Deep.DeepCutAuto
import Derived.Deep.QuietTactic
import Derived.Deep.RegionHeld3
import Derived.Deep.RegionWith
namespace Go.Proofs.YtadeoflkppiflaaGreatDoor
open Go.RowKit
set_option linter.unusedVariables false
set_option maxHeartbeats 1000000
attribute [local go_sem ↓] QA QQ QH Q8 Zc QS QC Za QN ZB Zk Qm Ql heap_alloc Qo heap_setCell Qb ZF ZM ZK ZN ZL
attribute [local go_sem] Qc Qa Qd Qj Qf Qe Qh Qi Qw ZE QZ Zy QO QG Q6 Q0 Q5 Zi Zz Q9 QM QB QI Zj Q7 Qz QP Qt Qk Qs Qr Qq Qp Qg Ze lit8 Qv ZA Zl Zm
attribute [local simp ↓] Qm Ql heap_alloc Qo heap_setCell Qb
attribute [local simp] Qc Qa Qd Qj Qf Qe Qh Qi Qw QB Qk Qs Qr Qq Qp Qg Qv
attribute [local go_sem ↓] XP XQ XO XN XS XR XM XZ
attribute [local go_sem] Xi XV Xh ZR ZT QL Xp ZZ X3 Zw QW QV QU QY QX QT QK QJ Zg Zf Xm ZW
attribute [local simp] QL Zf QW QV QU QY QX QT QK QJ Zg
attribute [local go_sem ↓] Xo ZV Xn ZU Z0
attribute [local go_sem] Xk Xj ZY Xl Qx Qy Z6
attribute [local simp] Z0 Qx Qy QI Zw
section
theorem J7:Wide Tryz.prog 117 15:=⟨⟨_,Tryz.underlying117,by rfl⟩,by kernel_rfl⟩
theorem Qag (x:Value):Instr.loadAt 117 x=Qc8 117 15 x:=rfl
theorem Jo (x y:Value):Instr.storeAt 117 x y=JW 117 15 x y:=rfl
theorem Qa2:Wide Tryz.prog 195 13:=⟨⟨_,Tryz.underlying195,by rfl⟩,by kernel_rfl⟩
theorem Qa3 (x:Value):Instr.loadAt 195 x=Qc8 195 13 x:=rfl
theorem JH (x y:Value):Instr.storeAt 195 x y=JW 195 13 x y:=rfl
attribute [local go_sem ↓] Qag Jo Qa3 JH
attribute [local go_sem] J7 Qa2
theorem Qbu {fn:Func} {p:Tmp} (h:fn.results=#[.cell p 117]) (tmps:Array Value) (w:World) (b:Nat) (x:En) (fr:Nat×Nat)
 (hp:tmps.getD p undef=.pointer (some ⟨b,0,none⟩)) (hb:w.heap[b]? =some (.cells (ec x) 117 fr)):
 (results fn tmps).run Tryz.prog w=.ok (.agg (ec x)) w:=by
 exact Tz117
theorem Xx {fn:Func} {p t u:Tmp} (h:fn.results=#[.cell p 117,.tmp t,.tmp u]) (tmps:Array Value) (w:World) (b:Nat) (x:En) (fr:Nat×Nat)
 (hp:tmps.getD p undef=.pointer (some ⟨b,0,none⟩)) (hb:w.heap[b]? =some (.cells (ec x) 117 fr)) (y z:Value) (hy:tmps.getD t undef=y) (hz:tmps.getD u undef=z):
 (results fn tmps).run Tryz.prog w=.ok (.tuple #[.agg (ec x),y,z]) w:=by
 subst hy
 subst hz
 exact Tz117
theorem rcore_any (c:Int) (w:World):Calls Tryz.prog 175 #[.int .i64 c] w fun e w'=>e=.returned (.bool (isC c))∧w=w':=by
 unfold isC
 cases t0:decide (0≤c)
 all_goals
  go_enter Tryz.func175,Tryz.ntmps175
  try dsimp only [List.append]
  go_wp2_with fail
  go_ret
  exact ⟨by simp,rfl⟩
theorem Qbb (x:En) (w:World):Calls Tryz.prog 180 #[.agg (ec x)] w fun e w'=>e=.returned (.int .u8 (mi (bitM x.ow)))∧Chg [] w w':=by
 go_enter Tryz.func180,Tryz.ntmps180
 try dsimp only [List.append]
 go_wp2_with (go_at_call 178;refine (X6 _ _).mono ?_;rintro e w' ⟨rfl,rfl⟩)
 go_ret
 exact Tz0
theorem ec_setHe (e:En) (b:Bool):(ec e).setIfInBounds 0 (.bool b)=ec (e.setHe b):=by simp [ec,En.enc,En.tail,En.setHe]
theorem ec_foldL (e:En) (l:List Int) (h:l.length=8):Array.foldl (fun cs y=>cs.setIfInBounds (2+y.snd) y.fst) (ec e) (vs l).zipIdx 0 8=ec (e.setL l h):=by
 rw [J1 _ _ _ _ (by rw [Qw,h]) (by rw [QL];omega)]
 have:=ec_put e l h 0 (0,0)
 rw [XI] at this
 simpa [vs] using this
attribute [local go_sem] ec_setHe ec_foldL
theorem down_any (x:En) (w:World):Calls Tryz.prog 65 #[.agg (ec x)] w fun e w'=>e=.returned (.agg (ec x))∧Chg [] w w':=by
 have h8:=x.h
 go_enter Tryz.func65,Tryz.ntmps65
 try dsimp only [List.append]
 go_wp2_with fail
 refine bodyPost_ret (v:=.agg (ec x)) ?_ (by rfl) ?_
 ·exact Qbu (by rfl) _ _ (w.heap.size+1) x (0,0) (by rfl) (by simp;rfl)
 exact Tz0
def badE (x:En):Bool:=decide (x.ow< -1)||(decide (7<x.ow)||((x.di&&!x.he)||((decide (0≤x.ow)&&x.sh !=0#8)||(((decide (0≤x.ow)||x.sh !=0#8)&&!x.he)||(!x.he&&x.l !=z8)))))
def offE (x:En):Bool:=(x.wa&&& ~~~(bitM x.ow|||x.sh)) !=0#8
def rgE (x:En):Bool:=if badE x=true then false else if offE x=true then false else if x.bu=0 then x.by_==0&&x.wa==0#8
 else if ((x.bu=1∨x.bu=2)∨(x.bu=4∨x.bu=5))∧isC x.by_=true∧x.he=true then x.wa !=0#8||(x.bu==4||x.bu==5) else false
theorem or_bits (a b:Mk):a|||b=b|||a:=BitVec.or_comm a b
theorem rgE_good (x:En):rgE x=Xz x:=by
 have hoff:offE x=!((x.wa&&& ~~~(XH x))==0#8):=by unfold offE XH;rw [or_bits];rfl
 cases he:x.he
 ·have e1:Xz x=decide (x=enE):=by simp [Xz,he]
  rw [e1]
  by_cases hx:x=enE
  ·subst hx;decide
  ·rw [decide_eq_false hx]
   unfold rgE
   by_cases hb:badE x=true
   ·rw [if_pos hb]
   rw [if_neg hb]
   by_cases ho:offE x=true
   ·rw [if_pos ho]
   rw [if_neg ho,if_neg (show ¬(((x.bu=1∨x.bu=2)∨(x.bu=4∨x.bu=5))∧isC x.by_=true∧x.he=true) by rw [he];simp)]
   split
   ·rename_i h0
    rw [Bool.and_eq_false_iff]
    by_cases h1:x.by_=0
    ·right
     rw [beq_eq_false_iff_ne]
     intro h2
     apply hx
     simp [badE,he] at hb
     obtain ⟨a1,a2,a3,a4,a5,a6⟩:=hb
     exact En.same he a3 a6 (show x.ow= -1 by omega) a5.2 h0 h1 h2
    ·left;simpa using h1
   ·rfl
 ·have e1:Xz x=(Qav x&&Jm x):=by simp [Xz,he]
  rw [e1]
  have hbad:badE x=!(Qav x):=by
   unfold badE Qav
   rw [he]
   rw [Bool.eq_iff_iff]
   cases hs:(x.sh==0#8)<;>simp [hs,bne,isC]<;>omega
  unfold rgE
  rw [hbad]
  cases hg:Qav x
  ·simp
  ·simp only [Bool.not_true,Bool.true_and,Bool.false_eq_true,if_false]
   rw [hoff]
   unfold Jm Qau
   cases hw:(x.wa&&& ~~~(XH x))==0#8
   ·simp only [Bool.not_false,if_true,Bool.and_false,Bool.false_and]
    split
    ·rename_i h0
     symm
     rw [Bool.and_eq_false_iff]
     right
     rw [beq_eq_false_iff_ne]
     intro h
     rw [h] at hw
     simp at hw
    ·split
     ·rfl
     ·split<;>rfl
   ·simp only [Bool.not_true,Bool.false_eq_true,if_false,Bool.and_true]
    split
    ·rfl
    ·rename_i h0
     by_cases h1:x.bu=1∨x.bu=2
     ·have h4:(x.bu==4)=false:=by simp;omega
      have h5:(x.bu==5)=false:=by simp;omega
      cases hc:isC x.by_<;>simp [h1,h4,h5,he]
     ·by_cases h2:x.bu=4∨x.bu=5
      ·have h6:((x.bu==4)||(x.bu==5))=true:=by rcases h2 with h|h<;>simp [h]
       cases hc:isC x.by_<;>simp [h1,h2,h6,he]
      ·simp [h1,h2]
theorem Qc4 {P:Program} {f:FuncId} {args:Array Value} {N:Nat} {W:World} {x:Aft N W} {v:Value} (hN:N≤W.heap.size)
 (h:Calls P f args x.w fun e w'=>e=.returned v∧Chg [] x.w w'):Calls P f args x.w fun e w''=>e=.returned v∧∃y:Aft N W,w''=y.w:=
 calls_aft hN (h.mono fun _ _ ⟨he,hc⟩=>⟨he,hc.below (Nat.le_refl _) (by simp)⟩)
theorem YI (c:Int) (b:Bool) (h:isC c=b) (w:World):Calls Tryz.prog 175 #[.int .i64 c] w fun e w'=>e=.returned (.bool b)∧w=w':=h▸rcore_any c w
set_option maxHeartbeats 8000000 in
set_option maxRecDepth 100000 in
theorem rgood_any7 (x:En) (w:World):Calls Tryz.prog 174 #[.agg (ec x)] w fun e w'=>e=.returned (.bool (Xz x))∧Chg [] w w':=by
 rw [←rgE_good]
 have rE:(w.alloc (.cells (ec (x)) 117 (0,0))).heap[w.heap.size]? =some (.cells (ec (x)) 117 (0,0)):=by simp
 have C1:=(Chg.refl [] w).alloc (.cells (ec (x)) 117 (0,0))
 have he:=fun W=>Ze x.l [0,0,0,0,0,0,0,0] x.h rfl W
 go_enter Tryz.func174,Tryz.ntmps174
 try dsimp only [List.append]
 go_upto_region 1 with (fail)
 generalize w.alloc (.cells (ec (x)) 117 (0,0))=w1 at rE C1 ⊢
 go_cut [55] from 3 to 56 (fun c wx=>c=.bool (badE x)∧wx=w1)
 case first=>
  cases t1:decide (x.ow< -1)
  ·cases t2:decide (7<x.ow)
   ·cases t3:x.di<;>cases t4:x.he
    all_goals
     cases t5:decide (0≤x.ow)<;>cases t6:(x.sh !=0#8)
     all_goals
      go_wp2_with fail
      go_meet
      case rel=>exact ⟨by first |(simp [badE, *];done)|(simp [badE, *];simp [bne,z8]),rfl⟩
   ·go_wp2_with fail
    go_meet
    case rel=>exact ⟨by simp [badE, *],rfl⟩
  ·go_wp2_with fail
   go_meet
   case rel=>exact ⟨by simp [badE, *],rfl⟩
 case rest=>
  obtain ⟨rfl,rfl⟩:=hcut
  cases hb:badE x
  ·skip
   have oE:=old rE
   go_wp2_with fail
   go_upto_region 3 with (fail)
   go_cut [64] from 56 to 65 (fun c wx=>c=.bool (offE x)∧wx.heap[w.heap.size]? =some (.cells (ec (x)) 117 (0,0))∧Chg [] w wx)
   case first=>
    have hx:∀y:Aft wc.heap.size wc,y.w.heap[w.heap.size]? =some (.cells (ec (x)) 117 (0,0)):=fun y=>(y.block oE.lt).trans rE
    refine YV wc.heap.size (by kernel_rfl) (by kernel_rfl) ?_
    repeat (go_big_quiet_step (first
     |(go_at_call 180;exact Qc4 (Nat.le_refl _) (Qbb x _))))
    refine wpQuiet_nil ?_
    rintro _ ⟨y,rfl⟩
    go_wp2_with fail
    go_meet
    case rel=>exact ⟨rfl,hx y,C1.trans (Below.chg y.below (Nat.le_refl _))⟩
   case rest=>
    obtain ⟨rfl,rE4,C4⟩:=hcut
    clear rE C1 oE
    cases ho:offE x
    ·by_cases h0:x.bu=0
     ·have s0:(x.bu==0)=true:=by simp [h0]
      cases s1:(x.by_==0)
      all_goals
       go_wp2_with fail
       go_ret
       exact ⟨by simp [rgE,hb,ho,h0,s1],C4⟩
     have s0:(x.bu==0)=false:=by simpa using h0
     by_cases hk:(x.bu=1∨x.bu=2)∨(x.bu=4∨x.bu=5)
     ·have s9:(x.bu !=1)=false∨((x.bu !=1)=true∧(x.bu !=2)=false)∨((x.bu !=1)=true∧(x.bu !=2)=true∧(x.bu !=4)=false)∨((x.bu !=1)=true∧(x.bu !=2)=true∧(x.bu !=4)=true∧(x.bu !=5)=false):=by
       rcases hk with (h|h)|(h|h)<;>simp [h]
      cases hc:isC x.by_
      ·rcases s9 with q1|⟨q1,q2⟩|⟨q1,q2,q3⟩|⟨q1,q2,q3,q4⟩
       all_goals
        go_wp2_with ((go_at_call 175;refine (YI _ _ hc _).mono ?_;rintro e w' ⟨rfl,rfl⟩))
        go_ret
        exact ⟨by simp [rgE,hb,ho,h0,hc],C4⟩
      ·cases hh:x.he
       ·rcases s9 with q1|⟨q1,q2⟩|⟨q1,q2,q3⟩|⟨q1,q2,q3,q4⟩
        all_goals
         go_wp2_with ((go_at_call 175;refine (YI _ _ hc _).mono ?_;rintro e w' ⟨rfl,rfl⟩))
         go_ret
         exact ⟨by simp [rgE,hb,ho,h0,hc,hh],C4⟩
       ·have e1:rgE x=(x.wa !=0#8||(x.bu==4||x.bu==5)):=by simp [rgE,hb,ho,h0,hc,hh,hk]
        cases hw:(x.wa !=0#8)<;>cases h4:(x.bu==4)
        all_goals
         rcases s9 with q1|⟨q1,q2⟩|⟨q1,q2,q3⟩|⟨q1,q2,q3,q4⟩
         all_goals
          go_wp2_with ((go_at_call 175;refine (YI _ _ hc _).mono ?_;rintro e w' ⟨rfl,rfl⟩))
          go_ret
          exact ⟨by rw [e1];simp [hw,h4],C4⟩
     ·have q1:(x.bu !=1)=true:=by simp;omega
      have q2:(x.bu !=2)=true:=by simp;omega
      have q3:(x.bu !=4)=true:=by simp;omega
      have q4:(x.bu !=5)=true:=by simp;omega
      go_wp2_with fail
      go_ret
      exact ⟨by simp [rgE,hb,ho,h0,hk],C4⟩
    ·go_wp2_with fail
     go_ret
     exact ⟨by simp [rgE,hb,ho],C4⟩
  ·go_wp2_with fail
   go_ret
   exact ⟨by simp [rgE,hb],C1⟩
end
section
set_option maxRecDepth 100000
attribute [local go_sem ↓] Qag Jo Qa3 JH
attribute [local go_sem] J7 Qa2
def Qdm (x:En) (k b:Int) (s:Mk):En:=((x.setBu k).setBy b).setWa s
theorem Qcd (x:En) (k b:Int) (s:Mk) (w:World):Calls Tryz.prog 179 #[.agg (ec x),.int .i64 k,.int .i64 b,.int .u8 (mi s)] w fun e w'=>e=.returned (.agg (ec (Qdm x k b s)))∧Chg [] w w':=by
 go_enter Tryz.func179,Tryz.ntmps179
 try dsimp only [List.append]
 go_wp2
 refine bodyPost_ret (v:=.agg (ec (Qdm x k b s))) ?_ (by rfl) ?_
 ·exact Qbu (by rfl) _ _ (w.heap.size+1) (Qdm x k b s) (0,0) (by rfl) (by simp;rfl)
 exact Tz0
theorem Qex (x:En) (w:World):Calls Tryz.prog 179 #[.agg (ec x),.int .i64 0,.int .i64 0,.int .u8 0] w fun e w'=>e=.returned (.agg (ec (XG x)))∧Chg [] w w':=Qcd x 0 0 0#8 w
theorem results_sr1 {fn:Func} {p:Tmp} (h:fn.results=#[.cell p 195]) (tmps:Array Value) (w:World) (b:Nat) (x:Sd) (fr:Nat×Nat)
 (hp:tmps.getD p undef=.pointer (some ⟨b,0,none⟩)) (hb:w.heap[b]? =some (.cells (sc x) 195 fr)):
 (results fn tmps).run Tryz.prog w=.ok (.agg (sc x)) w:=by
 have hp':tmps[p]?.getD undef=.pointer (some ⟨b,0,none⟩):=by simpa using hp
 have:=run_loadVar_row (P:=Tryz.prog) w b 195 195 (sc x) fr _ hb Tryz.underlying195 rfl (by rw [Zf];kernel_rfl)
 exact Tz93
theorem Qa8 (d kd li:Int) (l:List Int) (h8:l.length=8) (w:World):Calls Tryz.prog 181 #[.int .i64 d,.int .i64 kd,.int .i64 li,.agg (vs l)] w fun e w'=>e=.returned (.agg (sc ⟨d,ms5 kd li l h8⟩))∧Chg [] w w':=by
 have hsd:=fun C h h0=>sd_lit d (ms5 kd li l h8) C h h0
 have hm5:=Z6 kd li l h8
 go_enter Tryz.func181,Tryz.ntmps181
 try dsimp only [List.append]
 go_wp2
 refine bodyPost_ret (v:=.agg (sc ⟨d,ms5 kd li l h8⟩)) ?_ (by rfl) ?_
 ·exact results_sr1 (by rfl) _ _ (w.heap.size+1) ⟨d,ms5 kd li l h8⟩ (0,0) (by rfl) (by simp;try rfl)
 exact Tz0
theorem J5 (d kd li:Int) (w:World):Calls Tryz.prog 181 #[.int .i64 d,.int .i64 kd,.int .i64 li,.agg #[.int .u64 0,.int .u64 0,.int .u64 0,.int .u64 0,.int .u64 0,.int .u64 0,.int .u64 0,.int .u64 0]] w fun e w'=>e=.returned (.agg (sc ⟨d,ms4 kd li false false⟩))∧Chg [] w w':=Qa8 d kd li z8 rfl w
theorem Qev (x:En) (c:Int) (w:World):Calls Tryz.prog 182 #[.agg (ec x),.int .i64 c] w fun e w'=>e=.returned (.agg (ec (XG ((x.setOw c).setSh 0#8))))∧Chg [] w w':=by
 go_enter Tryz.func182,Tryz.ntmps182
 try dsimp only [List.append]
 go_wp2_with fail
 refine Qbk (w:=w) (b1:=w.heap.size) (x1:=.cells (ec ((x.setOw c).setSh 0#8)) 117 (0,0)) (b2:=w.heap.size+1) (x2:=.cells (ec (enZ)) 117 (0,0)) Cz0 (by simp [*]) (by simp [*]) fun w1 C1 rE rR=>?_
 have oE:=old rE
 have oR:=old rR
 refine (Qex _ _).mono ?_
 rintro e w2 ⟨rfl,c2⟩
 have rR2:=c2.keep rR (by simp)
 go_wp2_with fail
 refine bodyPost_ret (v:=.agg (ec (XG ((x.setOw c).setSh 0#8)))) ?_ (by rfl) ?_
 ·exact Qbu (by rfl) _ _ (w.heap.size+1) _ (0,0) (by rfl) (by simp [rR2];try rfl)
 exact Tz61
theorem eltSr:Elt Tryz.prog 186 195 13 96 (.agg (sc ⟨0,msZ⟩)) Sd.enc where
 slice:=Tryz.underlying186
 info:=by kernel_rfl
 zero:=rfl
 zone:=by intro v hv;exact Sd.one ⟨0,msZ⟩ v (by simpa [Value.cells,sc] using hv)
 pos:=by omega
 len:=Sd.len
 one:=Sd.one
theorem Vec.sdsR {w w':World} {q be cap:Nat} {A:Option Addr} {xs:List Sd} (hv:Vec 13 195 Sd.enc w' q be A cap xs) (hb:be=q∨w.heap.size≤be) (hc:Chg [] w w'):SdsTo w xs (.returned (.slice A xs.length cap)) w':=by
 refine ⟨A,cap,rfl,hv.sl Sd.len,?_,hc⟩
 rintro a rfl
 exact Tz107
theorem sr_slice (w:World) (s:Sd):Sl (w.alloc (.cells (sc s) 195)) 13 (some ⟨w.heap.size,0,none⟩) 1 (cat Sd.enc [s]):=
 ⟨by rw [Zo Sd.len];rfl,.inr ⟨w.heap.size,0,sc s,195,(0,0),rfl,by simp,by rw [JV];simp [sc,Sd.len,List.take_of_length_le]⟩⟩
theorem rall_any (s:Mk) (kd li:Int) (w:World) (h0:Old w 0):Calls Tryz.prog 183 #[.int .u8 (mi s),.int .i64 kd,.int .i64 li] w (SdsTo w (Xf s (ms4 kd li false false))):=by
 have H0:=Vh h0
 have h8:=Qg5 s
 clear h0
 go_enter Tryz.func183,Tryz.ntmps183
 try dsimp only [List.append]
 go_wp2_with fail
 refine (rcores_any s w H0.out).mono ?_
 rintro e w2 ⟨A,cp0,rfl,hs,hA,c2⟩
 have HA:=Vh hs
 have C2:=Vh c2
 have HL:∃n,n=(Jb s).length:=⟨_,rfl⟩
 obtain ⟨N,hN⟩:=HL
 rw [←hN] at HA h8 ⊢
 have HN:=Vh hN
 clear hs hA c2 hN
 go_wp2_with fail
 go_loopw [7,9] (fun x i wr=>∃(k be cp:Nat) (B:Option Addr) (xs:List Sd),k≤N∧i=.int .i64 k∧xs=(Xf s (ms4 kd li false false)).take k∧x=.slice B xs.length cp∧Chg [] w2 wr∧Vec 13 195 Sd.enc wr 0 be B cp xs∧(be=0∨w2.heap.size≤be)) (fun _ i _=>N-(intOf i).toNat)
 case atStart=>exact ⟨0,0,0,none,[],by omega,rfl,rfl,rfl,Chg.refl _ _,Vec.nil _ _ _ _ _,.inl rfl⟩
 case round=>
  obtain ⟨k,be,cp,B,xs,hk,rfl,hxs,rfl,hc,hvb,hbe⟩:=hrel
  by_cases hlt:k<N
  ·have g1:(k:Int)<(N:Int):=by omega
   have g0:(0:Int)≤(k:Int):=by omega
   have g2:(N:Int)≤8:=by omega
   obtain ⟨b,o,rfl⟩:=HA.out.addr (by omega)
   obtain ⟨cs,t,f,hb,hcell⟩:=(HA.out.chg hc (by simp)).cell hlt
   obtain ⟨y,hy⟩:∃y,(Jb s)[k]? =some y:=⟨(Jb s)[k]'Cz17,List.getElem?_eq_getElem _⟩
   rw [List.getElem?_map,hy] at hcell
   simp only [Option.map_some] at hcell
   have ht:xs++[⟨y,ms4 kd li false false⟩]=(Xf s (ms4 kd li false false)).take (k+1):=by rw [hxs,List.take_add_one];simp [Xf,hy]
   have hlen:xs.length≤8:=by rw [hxs,List.length_take];omega
   have HT:=Vh ht
   have HX:=Vh hxs
   have HV:=Vh hvb
   have HB:=Vh hbe
   have HC:=Vh hc
   have hLc:=HN.out
   clear hvb hc hbe hy ht hxs hLc
   go_wp2_with fail
   refine (J5 y kd li wr).mono ?_
   rintro e w5 ⟨rfl,c5⟩
   obtain ⟨be',cap',A',w3,happ,hv2,hbe2,hc2⟩:=Vec.acc (ty:=186) eltSr ((HC.out.trans c5).alloc (.cells (sc ⟨y,ms4 kd li false false⟩) 195)) (HV.out.keep (c5.alloc (.cells (sc ⟨y,ms4 kd li false false⟩) 195)) (by simp)) HB.out ((H0.out.chg C2.out)) (sr_slice w5 ⟨y,ms4 kd li false false⟩) (c:=1) rfl (by omega) Cz29
   have HL:=Vh (show xs.length+1=(xs++[(⟨y,ms4 kd li false false⟩:Sd)]).length by rw [List.length_append];rfl)
   have HV2:=Vh hv2
   have HB2:=Vh hbe2
   have HC2:=Vh hc2
   clear c5 hv2 hbe2 hc2
   go_wp2_with fail
   go_roundw
   case rel=>exact ⟨k+1,be',cap',A',xs++[⟨y,ms4 kd li false false⟩],by omega,by go_num,HT.out,by rw [←HL.out],HC2.out,HV2.out,HB2.out⟩
   case measure=>simp [intOf];omega
  ·obtain rfl:k=N:=by omega
   have hall:xs=Xf s (ms4 kd li false false):=by rw [hxs];exact List.take_of_length_le (by rw [HN.out];simp [Xf])
   have HV:=Vh hvb
   have HC:=Vh (C2.out.trans hc)
   have HB:=Vh (show be=0∨w.heap.size≤be by have:=C2.out.size;omega)
   clear hvb hc hbe hxs
   go_wp2_with fail
   go_ret
   rw [←hall]
   exact Vec.sdsR HV.out HB.out HC.out
theorem YY (x:En) (b:Bool) (h:Xz x=b) (w:World):Calls Tryz.prog 174 #[.agg (ec x)] w fun e w'=>e=.returned (.bool b)∧Chg [] w w':=h▸rgood_any7 x w
theorem Qcv (x:En) (w:World):Calls Tryz.prog 118 #[.agg (ec x)] w fun e w'=>e=.returned (.bool (Yb x))∧Chg [] w w':=by
 unfold Yb
 have rE:(w.alloc (.cells (ec (x)) 117 (0,0))).heap[w.heap.size]? =some (.cells (ec (x)) 117 (0,0)):=by simp
 have C1:=(Chg.refl [] w).alloc (.cells (ec (x)) 117 (0,0))
 cases t1:Xz x
 ·skip
  go_enter Tryz.func118,Tryz.ntmps118
  try dsimp only [List.append]
  go_wp2_with fail
  generalize w.alloc (.cells (ec (x)) 117 (0,0))=w1 at rE C1 ⊢
  refine (YY x _ t1 _).mono ?_
  rintro e w3 ⟨rfl,c3⟩
  go_wp2_with fail
  go_ret
  exact ⟨by simp,C1.trans c3⟩
 ·cases t2:(x.bu==4)<;>cases t3:(x.bu==5)
  all_goals
   go_enter Tryz.func118,Tryz.ntmps118
   try dsimp only [List.append]
   go_wp2_with fail
   generalize w.alloc (.cells (ec (x)) 117 (0,0))=w1 at rE C1 ⊢
   refine (YY x _ t1 _).mono ?_
   exact Tz101
theorem rready_at (x:En) (b:Bool) (h:Yb x=b) (w:World):Calls Tryz.prog 118 #[.agg (ec x)] w fun e w'=>e=.returned (.bool b)∧Chg [] w w':=h▸Qcv x w
theorem Qew (w:World):Calls Tryz.prog 101 #[] w fun e w'=>e=.returned (.agg (ec enE))∧Chg [] w w':=by
 go_enter Tryz.func101,Tryz.ntmps101
 try dsimp only [List.append]
 go_wp2
 refine bodyPost_ret (v:=.agg (ec enE)) ?_ (by rfl) ?_
 ·exact Qbu (by rfl) _ _ (w.heap.size) enE (0,0) (by rfl) (by simp;rfl)
 exact Tz0
theorem er_eq (a b:En) (w:World):(Op.equalIn 10000 117 (.agg (ec a)) (.agg (ec b))).run Tryz.prog w=.ok (decide (a=b)) w:=by
 have p:=fun (x:En)=>run_part_plain (P:=Tryz.prog) w (e:=4) (by kernel_rfl) (XP x)
 have q:=fun (x:En)=>run_part_plain (P:=Tryz.prog) w (e:=4) (by kernel_rfl) (XQ x)
 have r:=fun (x:En)=>run_part_plain (P:=Tryz.prog) w (e:=3) (by kernel_rfl) (XO x)
 have s:=fun (x:En)=>run_part_plain (P:=Tryz.prog) w (e:=5) (by kernel_rfl) (XN x)
 have t:=fun (x:En)=>run_part_plain (P:=Tryz.prog) w (e:=3) (by kernel_rfl) (XS x)
 have u:=fun (x:En)=>run_part_plain (P:=Tryz.prog) w (e:=3) (by kernel_rfl) (XR x)
 have v:=fun (x:En)=>run_part_plain (P:=Tryz.prog) w (e:=5) (by kernel_rfl) (XM x)
 have l:=fun (x:En)=>line_partE x w
 have e0:=fun a b=>run_equalIn_int w 9998 3 .i64 .i64 a b Tryz.underlying3
 have e8:=fun a b=>run_equalIn_int w 9998 5 .u8 .u8 a b Tryz.underlying5
 have e1:=fun a b=>run_equalIn_bool w 9998 4 a b Tryz.underlying4
 have e2:(Op.equalIn 9999 36 (.agg (vs a.l)) (.agg (vs b.l))).run Tryz.prog w=.ok (a.l==b.l) w:=by
  exact Tz46
 rw [←eqE_iff,run_equalIn_struct w 9999 117 _ _ (by simp only [Program.fieldsOf,Tryz.underlying117]) (by kernel_rfl)]
 simp only [Program.fieldsOf,Tryz.underlying117]
 exact Tz48
end
section
attribute [local go_sem ↓] Qag Jo Qa3 JH
attribute [local go_sem] J7 Qa2
def En3r (w:World) (r:(En×List Sd)×Int):Ending→World→Prop:=fun e w'=>∃A c,e=.returned (.tuple #[.agg (ec r.1.1),.slice A r.1.2.length c,.int .i64 r.2])∧Sl w' 13 A r.1.2.length (cat Sd.enc r.1.2)∧(∀a,A=some a→w.heap.size≤a.block)∧Chg [] w w'
theorem En3r.err (w w':World) (n:Int) (h:Chg [] w w'):En3r w ((enZ,[]),n) (.returned (.tuple #[.agg (ec enZ),.slice none 0 0,.int .i64 n])) w':=⟨none,0,rfl,⟨rfl,.inl rfl⟩,by simp,h⟩
theorem YN (m:Ms) (b:Bool) (h:mg m=b) (w:World):Calls Tryz.prog 176 #[.agg (msc m)] w fun e w'=>e=.returned (.bool b)∧Chg [] w w':=h▸rgood_any m w
theorem JI (k:Int) (b:Bool) (h:Yc k=b) (w:World):Calls Tryz.prog 177 #[.int .i64 k] w fun e w'=>e=.returned (.bool b)∧w=w':=h▸Y9 k w
theorem JB (k:Int) (b:Bool) (h:Xe k=b) (w:World):Calls Tryz.prog 184 #[.int .i64 k] w fun e w'=>e=.returned (.bool b)∧w=w':=h▸X7 k w
theorem good_idle {x:En} (h:Xz x=true) (h0:x.bu=0):x.wa=0#8:=by
 unfold Xz at h
 split at h
 ·rw [Bool.and_eq_true] at h
  have h2:=h.2
  rw [Jm,if_pos h0] at h2
  simp at h2
  exact h2.2
 ·have h2:=of_decide_eq_true h
  subst h2
  rfl
theorem ready_by {x:En} (h:Yb x=true):isC x.by_=true:=by
 unfold Yb at h
 rw [Bool.and_eq_true,Bool.and_eq_true] at h
 obtain ⟨⟨h1,h2⟩,h3⟩:=h
 have hb:x.bu=4∨x.bu=5:=by simpa using h2
 unfold Xz at h1
 split at h1
 ·rw [Bool.and_eq_true] at h1
  have h4:=h1.2
  rw [Jm,if_neg (by omega),if_neg (by omega),if_pos hb,Qau,Bool.and_eq_true] at h4
  exact h4.1
 ·have h5:=of_decide_eq_true h1
  subst h5
  simp [enE] at hb
def dA1 (x:En) (c:Int):En:=x.setWa (x.wa&&& ~~~(bitM c))
def dA2 (x:En) (c:Int) (m:Ms):En:=ZD (dA1 x c) m
def dA3 (x:En) (c:Int) (m:Ms):En:=if (dA2 x c m).ow=c then (dA2 x c m).setOw (-1) else dA2 x c m
def dA4 (x:En) (c:Int) (m:Ms):En:=(dA3 x c m).setSh ((dA3 x c m).sh&&& ~~~(bitM c))
def dA5 (x:En) (c:Int) (m:Ms):En:=if m.ke=true then (dA4 x c m).setSh ((dA4 x c m).sh|||bitM c) else dA4 x c m
theorem dA5_eq (x:En) (c:Int) (m:Ms):dA5 x c m=Zn x c m:=by
 unfold dA5 dA4 dA3 dA2 dA1 Zn Zx ZD
 cases hd:m.di<;>cases hk:m.ke<;>by_cases h:x.ow=c<;>simp [En.setWa,En.setSh,En.setOw,En.setDi,En.setL,h]
theorem dA5_by (x:En) (c:Int) (m:Ms):(dA5 x c m).by_=x.by_:=by
 unfold dA5 dA4 dA3 dA2 dA1 ZD
 cases hd:m.di<;>cases hk:m.ke<;>by_cases h:x.ow=c<;>simp [En.setWa,En.setSh,En.setOw,En.setDi,En.setL,h]
theorem busy_by {x:En} (h1:Xz x=true) (h:¬x.bu=0):isC x.by_=true:=by
 unfold Xz at h1
 split at h1
 ·rw [Bool.and_eq_true] at h1
  have h4:=h1.2
  rw [Jm,if_neg h] at h4
  split at h4
  ·rw [Qau,Bool.and_eq_true,Bool.and_eq_true] at h4
   exact h4.1.1
  ·split at h4
   ·rw [Qau,Bool.and_eq_true] at h4
    exact h4.1
   ·cases h4
 ·have h5:=of_decide_eq_true h1
  subst h5
  exact absurd rfl h
theorem Xd {w:World} {r:Nat} {c cs:Array Value} {t:TypeId} (h:w.heap[r]? =some (.cells c t (0,0))) (hs:cs.size=c.size):(putRow w r 0 cs).heap[r]? =some (.cells cs t (0,0)):=by
 simp [h,hs]
theorem sds_new {w w1 X W:World} {r:Nat} {x:Sd} (hc:Chg [] w w1) (hX:Chg [r] w1 X) (ho:Old w1 r) (hW:Chg [r] (X.alloc (.cells (sc x) 195)) W):Sl W 13 (some ⟨X.heap.size,0,none⟩) 1 (cat Sd.enc [x])∧w.heap.size≤X.heap.size:=by
 have h1:=ho.lt
 have h2:=hX.size
 have h3:=hc.size
 exact ⟨(sr_slice X x).chg hW (by intro a ha;cases ha;simp;omega),by omega⟩
section
variable {w w1 X W w2:World} {r:Nat} {x:Sd} {y:En} {n:Int} {cs:Array Value} (hc:Chg [] w w1) (hX:Chg [r] w1 X) (ho:Old w1 r) (hr:w.heap.size≤r)
include hc hX ho hr
theorem En3r.of (hW:Chg [r] (X.alloc (.cells (sc x) 195)) W) (k:Nat) (hk:k=X.heap.size):En3r w ((y,[x]),n) (.returned (.tuple #[.agg (ec y),.slice (some ⟨k,0,none⟩) 1 1,.int .i64 n])) W:=by
 subst hk
 obtain ⟨h1,h2⟩:=sds_new hc hX ho hW
 exact ⟨_,1,rfl,h1,by rintro a ha;cases ha;exact h2,(hc.trans' hX (by simp [hr])).alloc _ |>.trans' hW (by simp [hr])⟩
theorem En3r.L1p:En3r w ((y,[x]),n) (.returned (.tuple #[.agg (ec y),.slice (some ⟨X.heap.size,0,none⟩) 1 1,.int .i64 n])) ((putRow X r 0 cs).alloc (.cells (sc x) 195)):=
 En3r.of hc (hX.putRow r 0 cs (.inl (by simp))) ho hr (Chg.refl _ _) _ (by simp)
theorem En3r.L2:En3r w ((y,[x]),n) (.returned (.tuple #[.agg (ec y),.slice (some ⟨X.heap.size,0,none⟩) 1 1,.int .i64 n])) (putRow (X.alloc (.cells (sc x) 195)) r 0 cs):=
 En3r.of hc hX ho hr ((Chg.refl _ _).putRow r 0 cs (.inl (by simp))) _ rfl
end
theorem eqb {a b:Int} (h:(a==b)=true):a=b:=by simpa using h
theorem neb {a b:Int} (h:(a==b)=false):¬a=b:=by simpa using h
def ansF (y:En) (li:Int):(En×List Sd)×Int:=if y.wa≠0#8 then ((y,[]),0) else (X4 y li,0)
set_option maxHeartbeats 4000000 in
set_option maxRecDepth 100000 in
theorem ranswer_zero (x:En) (c:Int) (m:Ms) (w:World) (g1:Xz x=true) (g2:isC c=true) (g3:mg m=true) (g4:Xe m.kd=true) (ga:Qbo x c m=true) (hb:hasM x.wa c=true):Calls Tryz.prog 116 #[.agg (ec x),.int .i64 c,.agg (msc m)] w (En3r w (ansE x c m)):=by
 have hb':((x.wa&&& bitM c)==0#8)=false:=by simpa [hasM,bne] using hb
 have t1:(x.bu==0)=false:=by
  rw [beq_eq_false_iff_ne]
  intro h0
  rw [good_idle g1 h0] at hb
  simp [Xa] at hb
 have e1:ansE x c m=ansF (dA5 x c m) m.li:=by simp [ansE,ansF,ga,hb,dA5_eq]
 rw [e1]
 clear ga e1
 have h8:=m.h
 go_enter Tryz.func116,Tryz.ntmps116
 try dsimp only [List.append]
 go_wp2_with fail
 refine ZJ (w:=w) (b1:=w.heap.size) (x1:=.cells (ec (x)) 117 (0,0)) (b2:=w.heap.size+1) (x2:=.cells (msc m) 38 (0,0)) (b3:=w.heap.size+2) (x3:=.cells (ec (enZ)) 117 (0,0)) Cz0 (by simp [*]) (by simp [*]) (by simp [*]) fun w1 C1 rE rM rR=>?_
 have oE:=old rE
 have oM:=old rM
 have oR:=old rR
 refine (YY x _ g1 w1).mono ?_
 rintro e w3 ⟨rfl,c3⟩
 have rE3:=c3.keep rE (by simp)
 have rM3:=c3.keep rM (by simp)
 have rR3:=c3.keep rR (by simp)
 have C3:=C1.trans c3
 clear rE rM rR oE oM oR C1 c3
 have oE3:=old rE3
 have oM3:=old rM3
 have oR3:=old rR3
 go_wp2_with ((go_at_call 175;refine (YI _ _ g2 _).mono ?_;rintro e w' ⟨rfl,rfl⟩))
 refine (YN m _ g3 w3).mono ?_
 rintro e w4 ⟨rfl,c4⟩
 have rE4:=c4.keep rE3 (by simp)
 have rM4:=c4.keep rM3 (by simp)
 have rR4:=c4.keep rR3 (by simp)
 have C4:=C3.trans c4
 clear rE3 rM3 rR3 oE3 oM3 oR3 C3 c4
 have oE4:=old rE4
 have oM4:=old rM4
 have oR4:=old rR4
 go_upto_if 50 with (first |(go_at_call 184;refine (JB _ _ g4 _).mono ?_;rintro e w' ⟨rfl,rfl⟩)|(go_at_call 178;refine (X6 _ _).mono ?_;rintro e w' ⟨rfl,rfl⟩))
 go_cut [] (fun wx=>wx.heap[w.heap.size]? =some (.cells (ec (dA2 x c m)) 117 (0,0))∧wx.heap[w.heap.size+1]? =some (.cells (msc m) 38 (0,0))∧wx.heap[w.heap.size+2]? =some (.cells (ec (enZ)) 117 (0,0))∧Chg [] w wx)
 case first=>
  cases hd:m.di
  all_goals
   go_wp2_with (first |(go_at_call 184;refine (JB _ _ g4 _).mono ?_;rintro e w' ⟨rfl,rfl⟩)|(go_at_call 178;refine (X6 _ _).mono ?_;rintro e w' ⟨rfl,rfl⟩))
   go_meet
   case rel=>exact ⟨by simp (maxDischargeDepth:=8) [rE4,dA2,ZD,dA1,hd,m.h],by simp (maxDischargeDepth:=8) [rM4,rE4,m.h],by simp (maxDischargeDepth:=8) [rR4,rE4,m.h],by (repeat' (first |with_reducible exact Chg.refl _ _|with_reducible assumption|with_reducible refine Chg.drew ?_|with_reducible refine Chg.drewN ?_ _|with_reducible refine Chg.alloc ?_ _|with_reducible refine Chg.putRow ?_ _ _ _ (.inr ?_)|with_reducible refine Chg.setCell ?_ _ _ _ (.inr ?_)|(show _≤_;first |exact Nat.le_refl _|omega|(simp;done))))⟩
 case rest=>
 obtain ⟨rE5,rM5,rR5,C5⟩:=hcut
 clear rE4 rM4 rR4 oE4 oM4 oR4 C4
 have oE5:=old rE5
 have oM5:=old rM5
 have oR5:=old rR5
 go_upto_if 58 with (first |(go_at_call 184;refine (JB _ _ g4 _).mono ?_;rintro e w' ⟨rfl,rfl⟩)|(go_at_call 178;refine (X6 _ _).mono ?_;rintro e w' ⟨rfl,rfl⟩))
 go_cut [] (fun wx=>wx.heap[w.heap.size]? =some (.cells (ec (dA3 x c m)) 117 (0,0))∧wx.heap[w.heap.size+1]? =some (.cells (msc m) 38 (0,0))∧wx.heap[w.heap.size+2]? =some (.cells (ec (enZ)) 117 (0,0))∧Chg [] w wx)
 case first=>
  cases ho:((dA2 x c m).ow==c)
  all_goals
   go_wp2_with (first |(go_at_call 184;refine (JB _ _ g4 _).mono ?_;rintro e w' ⟨rfl,rfl⟩)|(go_at_call 178;refine (X6 _ _).mono ?_;rintro e w' ⟨rfl,rfl⟩))
   go_meet
   case rel=>exact ⟨by first |(simp [rE5,dA3,eqb ho];done)|(simp [rE5,dA3,neb ho];done),by simp [rM5],by simp [rR5],by (repeat' (first |with_reducible exact Chg.refl _ _|with_reducible assumption|with_reducible refine Chg.drew ?_|with_reducible refine Chg.drewN ?_ _|with_reducible refine Chg.alloc ?_ _|with_reducible refine Chg.putRow ?_ _ _ _ (.inr ?_)|with_reducible refine Chg.setCell ?_ _ _ _ (.inr ?_)|(show _≤_;first |exact Nat.le_refl _|omega|(simp;done))))⟩
 case rest=>
 obtain ⟨rE6,rM6,rR6,C6⟩:=hcut
 clear rE5 rM5 rR5 oE5 oM5 oR5 C5
 have oE6:=old rE6
 have oM6:=old rM6
 have oR6:=old rR6
 go_upto_if 66 with (first |(go_at_call 184;refine (JB _ _ g4 _).mono ?_;rintro e w' ⟨rfl,rfl⟩)|(go_at_call 178;refine (X6 _ _).mono ?_;rintro e w' ⟨rfl,rfl⟩))
 go_cut [] (fun wx=>wx.heap[w.heap.size]? =some (.cells (ec (dA5 x c m)) 117 (0,0))∧wx.heap[w.heap.size+1]? =some (.cells (msc m) 38 (0,0))∧wx.heap[w.heap.size+2]? =some (.cells (ec (enZ)) 117 (0,0))∧Chg [] w wx)
 case first=>
  cases hk:m.ke
  all_goals
   go_wp2_with (first |(go_at_call 184;refine (JB _ _ g4 _).mono ?_;rintro e w' ⟨rfl,rfl⟩)|(go_at_call 178;refine (X6 _ _).mono ?_;rintro e w' ⟨rfl,rfl⟩))
   go_meet
   case rel=>exact ⟨by first |(simp [rE6,dA5,dA4,hk];done)|(simp [rE6,dA5,dA4,hk];done),by simp [rM6],by simp [rR6],by (repeat' (first |with_reducible exact Chg.refl _ _|with_reducible assumption|with_reducible refine Chg.drew ?_|with_reducible refine Chg.drewN ?_ _|with_reducible refine Chg.alloc ?_ _|with_reducible refine Chg.putRow ?_ _ _ _ (.inr ?_)|with_reducible refine Chg.setCell ?_ _ _ _ (.inr ?_)|(show _≤_;first |exact Nat.le_refl _|omega|(simp;done))))⟩
 case rest=>
 obtain ⟨rE7,rM7,rR7,C7⟩:=hcut
 clear rE6 rM6 rR6 oE6 oM6 oR6 C6
 have oE7:=old rE7
 have oM7:=old rM7
 have oR7:=old rR7
 have hby:isC (dA5 x c m).by_=true:=by rw [dA5_by];exact busy_by g1 (by simpa using t1)
 clear g1 g2 g3 g4 hb hb' t1
 generalize dA5 x c m=y at *
 have hy8:=y.h
 cases hw:(y.wa !=0#8)
 ·cases h1:(y.bu==1)
  ·cases h2:(y.bu==2)
   ·go_wp2_with fail
    rw [show ansF y m.li=((y,[]),0) by simp [ansF,X4,neb h1,neb h2]]
    exact Tz114
   ·have e1:ansF y m.li=((XG ((y.setOw y.by_).setSh 0#8),[⟨y.by_,ms5 10 m.li y.l y.h⟩]),0):=by
     have hw':y.wa=0#8:=by simpa using hw
     simp [ansF,X4,eqb h2,YA,YB,hby,XG,En.setOw,En.setSh,En.setBu,En.setBy,En.setWa,hw']
    go_upto_region 22 with fail
    refine XK (w:=w) (b1:=w.heap.size) (x1:=.cells (ec (y)) 117 (0,0)) (b2:=w.heap.size+1) (x2:=.cells (msc m) 38 (0,0)) (b3:=w.heap.size+2) (x3:=.cells (ec (enZ)) 117 (0,0)) Cz0 (by simp [*]) (by simp [*]) (by simp [*]) fun w8 C8 rE rM rR=>?_
    have oE:=old rE
    have oM:=old rM
    have oR:=old rR
    go_region_held3 (fun w'=>w'.heap[w.heap.size]? =some (.cells (ec (y)) 117 (0,0))∧w'.heap[w.heap.size+1]? =some (.cells (msc m) 38 (0,0))) (exact ⟨Chg.keep (l:=[w.heap.size+2]) (w:=w8) Cz9 rE (by simp),Chg.keep (l:=[w.heap.size+2]) (w:=w8) Cz9 rM (by simp)⟩)
     (first
      |(go_at_call 182;refine (Qev _ _ _).mono ?_;rintro e w' ⟨rfl,c2⟩;(first |(have cO:Chg [w.heap.size+2] w8 _:=Chg.trans (Chg.refl [w.heap.size+2] w8).drew (Chg.mono c2 (fun _ h=>absurd h Vn)))|(have cO:Chg [w.heap.size+2] w8 _:=Chg.trans cT (Chg.mono c2 (fun _ h=>absurd h Vn)))|(have cO:Chg [w.heap.size+2] w8 _:=Chg.trans (cT.alloc _) (Chg.mono c2 (fun _ h=>absurd h Vn))));(first |(have rR2:=c2.keep rR Vn)|(have rR2:=c2.keep rR3 Vn)|(have rR2:=Chg.keep ((Chg.refl [] _).alloc _ |>.trans c2) rR3 Vn)))
      |(go_at_call 181;refine (Qa8 _ _ _ _ y.h _).mono ?_;rintro e w' ⟨rfl,c3⟩;(first |(have cT:Chg [w.heap.size+2] w8 _:=Chg.trans (Chg.refl [w.heap.size+2] w8).drew (Chg.mono c3 (fun _ h=>absurd h Vn)))|(have cT:Chg [w.heap.size+2] w8 _:=Chg.trans cO (Chg.mono c3 (fun _ h=>absurd h Vn)))|(have cT:Chg [w.heap.size+2] w8 _:=Chg.trans (Chg.putRow cO w.heap.size+2 0 _ (.inl (Vm rfl))) (Chg.mono c3 (fun _ h=>absurd h Vn))));(first |(have rR3:=c3.keep rR Vn)|(have rR3:=c3.keep rR2 Vn)|(have rR3:=c3.keep (Xd rR2 rfl) Vn))))
    all_goals
     go_wp2_with fail
     rw [e1]
     refine bodyPost_ret (Xx (by rfl) _ _ (w.heap.size+2) (XG ((y.setOw y.by_).setSh 0#8)) (0,0) (by rfl) (by first |(simp [rR3];done)|(simp [rR2];done)|(simp [rR2,rR3];done)) _ _ (by rfl) (by rfl)) (by rfl) ?_
     exact Tz106
  ·have e1:ansF y m.li=((XG (y.setSh (y.sh|||bitM y.by_)),[⟨y.by_,ms5 8 m.li y.l y.h⟩]),0):=by
    have hw':y.wa=0#8:=by simpa using hw
    simp [ansF,X4,eqb h1,Yp,YB,hby,XG,En.setSh,En.setBu,En.setBy,En.setWa,hw']
   go_upto_region 19 with fail
   go_cut [] (fun wx=>wx.heap[w.heap.size]? =some (.cells (ec (y.setSh (y.sh|||bitM y.by_))) 117 (0,0))∧wx.heap[w.heap.size+1]? =some (.cells (msc m) 38 (0,0))∧wx.heap[w.heap.size+2]? =some (.cells (ec (enZ)) 117 (0,0))∧Chg [] w wx)
   case first=>
    go_region_with (go_at_call 178;refine (X6 _ _).mono ?_;rintro e w' ⟨rfl,rfl⟩)
    all_goals
     go_wp2_with fail
     go_meet
     case rel=>exact ⟨by simp [rE7],by simp [rM7],by simp [rR7],by (repeat' (first |with_reducible exact Chg.refl _ _|with_reducible assumption|with_reducible refine Chg.drew ?_|with_reducible refine Chg.drewN ?_ _|with_reducible refine Chg.alloc ?_ _|with_reducible refine Chg.putRow ?_ _ _ _ (.inr ?_)|with_reducible refine Chg.setCell ?_ _ _ _ (.inr ?_)|(show _≤_;first |exact Nat.le_refl _|omega|(simp;done))))⟩
   case rest=>
   obtain ⟨rE,rM,rR,C8⟩:=hcut
   clear rE7 rM7 rR7 oE7 oM7 oR7 C7
   have oR:=old rR
   have oE:=old rE
   have oM:=old rM
   generalize hw8:wc=w8 at *
   clear hw8
   go_upto_region 20 with fail
   go_region_held3 (fun w'=>w'.heap[w.heap.size]? =some (.cells (ec (y.setSh (y.sh|||bitM y.by_))) 117 (0,0))∧w'.heap[w.heap.size+1]? =some (.cells (msc m) 38 (0,0))) (exact ⟨Chg.keep (l:=[w.heap.size+2]) (w:=w8) Cz9 rE (by simp),Chg.keep (l:=[w.heap.size+2]) (w:=w8) Cz9 rM (by simp)⟩)
    (first
     |(go_at_call 179;refine (Qex _ _).mono ?_;rintro e w' ⟨rfl,c2⟩;(first |(have cO:Chg [w.heap.size+2] w8 _:=Chg.trans (Chg.refl [w.heap.size+2] w8).drew (Chg.mono c2 (fun _ h=>absurd h Vn)))|(have cO:Chg [w.heap.size+2] w8 _:=Chg.trans cT (Chg.mono c2 (fun _ h=>absurd h Vn)))|(have cO:Chg [w.heap.size+2] w8 _:=Chg.trans (cT.alloc _) (Chg.mono c2 (fun _ h=>absurd h Vn))));(first |(have rR2:=c2.keep rR Vn)|(have rR2:=c2.keep rR3 Vn)|(have rR2:=Chg.keep ((Chg.refl [] _).alloc _ |>.trans c2) rR3 Vn)))
     |(go_at_call 181;refine (Qa8 _ _ _ _ y.h _).mono ?_;rintro e w' ⟨rfl,c3⟩;(first |(have cT:Chg [w.heap.size+2] w8 _:=Chg.trans (Chg.refl [w.heap.size+2] w8).drew (Chg.mono c3 (fun _ h=>absurd h Vn)))|(have cT:Chg [w.heap.size+2] w8 _:=Chg.trans cO (Chg.mono c3 (fun _ h=>absurd h Vn)))|(have cT:Chg [w.heap.size+2] w8 _:=Chg.trans (Chg.putRow cO w.heap.size+2 0 _ (.inl (Vm rfl))) (Chg.mono c3 (fun _ h=>absurd h Vn))));(first |(have rR3:=c3.keep rR Vn)|(have rR3:=c3.keep rR2 Vn)|(have rR3:=c3.keep (Xd rR2 rfl) Vn))))
   all_goals
    go_wp2_with fail
    rw [e1]
    refine bodyPost_ret (Xx (by rfl) _ _ (w.heap.size+2) (XG (y.setSh (y.sh|||bitM y.by_))) (0,0) (by rfl) (by first |(simp [rR3];done)|(simp [rR2];done)|(simp [rR2,rR3];done)) _ _ (by rfl) (by rfl)) (by rfl) ?_
    exact Tz106
 ·go_wp2_with fail
  rw [show ansF y m.li=((y,[]),0) by simp [ansF];intro h;simp [h] at hw]
  exact Tz114
theorem ranswer_okay (x:En) (c:Int) (m:Ms) (w:World) (hz:(ansE x c m).2=0):Calls Tryz.prog 116 #[.agg (ec x),.int .i64 c,.agg (msc m)] w (En3r w (ansE x c m)):=by
 have ga:Qbo x c m=true:=by
  cases h:Qbo x c m
  ·unfold ansE at hz;rw [h] at hz;simp at hz
  ·rfl
 have hb:hasM x.wa c=true:=by
  cases h:hasM x.wa c
  ·unfold ansE at hz;rw [ga,h] at hz;simp at hz
  ·rfl
 have g:=ga
 unfold Qbo at g
 rw [Bool.and_eq_true,Bool.and_eq_true,Bool.and_eq_true] at g
 obtain ⟨⟨⟨g1,g2⟩,g3⟩,g4⟩:=g
 exact ranswer_zero x c m w g1 g2 g3 g4 ga hb
end
end Go.Proofs.YtadeoflkppiflaaGreatDoor
