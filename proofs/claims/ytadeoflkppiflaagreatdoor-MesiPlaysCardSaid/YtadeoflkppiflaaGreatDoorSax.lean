/- Texts of the walk, one behind the other: Ryr. No condition. -/
import Derived.Test.YtadeoflkppiflaaGreatDoorSaa
import Derived.Test.YtadeoflkppiflaaGreatDoorSak
import Derived.Test.YtadeoflkppiflaaGreatDoorSav
import Derived.BigQuiet
import Derived.Deep.Cut
import Derived.Deep.CutBlock
import Derived.Deep.CutRange
import Derived.Deep.DeepCutAuto
import Derived.Deep.QuietTactic
import Derived.Deep.RegionHeld3
import Derived.Deep.RegionWith
namespace Go.Proofs.YtadeoflkppiflaaGreatDoor
open Go.RowKit
set_option linter.unusedVariables false
set_option maxHeartbeats 1000000
set_option maxRecDepth 100000
attribute [local go_sem ↓] QA QQ QH Q8 QS QC Za QN Zs Zh Qm Ql heap_alloc Qo heap_setCell Qb ZF Z4 Z5 Z3 Zc ZB Zk ZI Zv ZM ZK ZN ZL
attribute [local go_sem] Qc Qa Qd Qj Qf Qe Qh Qi Qw ZE QZ Zq QO QG Q6 Q0 Q5 Zi Q9 QM QB QI Zj Q7 Qz QP Qt Qk Qs Qr Qq Qp Qg Zb Ze lit8 QF ZG Zr Zt ZC Zd Zy ZH Zz Qv ZA Zl Zm QE QD QR ZO
attribute [local simp ↓] Qm Ql heap_alloc Qo heap_setCell Qb
attribute [local simp] Qc Qa Qd Qj Qf Qe Qh Qi Qw QB Qk Qs Qr Qq Qp Qg QF Qv QE QD QR QI
attribute [local go_sem ↓] XP XQ XO XN XS XR XM XZ
attribute [local go_sem] Xi XV Xh ZR ZT QL Xp ZZ X3 Zw QW QV QU QY QX QT QK QJ Zg Zf Xm ZW
attribute [local simp] QL Zf QW QV QU QY QX QT QK QJ Zg
attribute [local go_sem ↓] Xo ZV Xn ZU Z0
attribute [local go_sem] Xk Xj ZY Xl Qx Qy Z6
attribute [local simp] Z0 Qx Qy QI Zw
attribute [local go_sem ↓] Xg Qac Jh Jj Jf Ji Jg rsc_0 rsc_1 rsc_3 rsc_4 rsc_7 rsc_8 rsc_9 rsc_10 rsc_s8 rsc_s9 Qet
attribute [local go_sem] Qdv Qdo Qa5 Qem Qb2
attribute [local go_sem ↓] Qea cg_li cg_vo cg_qu
attribute [local simp] Xg
attribute [local go_sem] J7
attribute [local go_sem ↓] er_eq Qag Jo
section
theorem wseven_renc (z:RLay) (c:Cg):(z.enc c).toArray[7]? =some (.pointer (some ⟨z.q,0,none⟩)):=rfl
attribute [local go_sem ↓] wseven_renc
section
variable {W w:World} {c:Cg} {z:RLay} {L:List (Po×Pt)} {sy n:Nat} {F:List Nat} {S:Mst} {cur:Nat→List Int} (hm:MS W w c sy F S) (h:Rsd W w c z L S.en S.es S.xs) (hps:ports L=S.ps) (hI:Inv c n S cur)
include hm h hps hI
set_option maxHeartbeats 4000000 in
theorem same9 (hn:n≤900):Calls Tryz.prog 16 #[.pointer (some ⟨sy,0,none⟩),.pointer (some ⟨z.sy,0,none⟩)] w fun e w'=>e=.returned (.bool true)∧Chg [] w w':=by
 have HM:=Vh hm
 have HH:=Vh h
 have HPS:=Vh hps
 have HI:=Vh hI
 have HNN:=Vh hn
 have rS:=h.sys
 have gli:(c.li:Int)≤64:=by have:=hI.ok.li64;omega
 have gco:(c.co:Int)≤8:=by have:=hI.ok.co8;omega
 clear hm h hps hI hn
 go_enter Tryz.func16,Tryz.ntmps16
 try dsimp only [List.append]
 go_wp2_with fail
 go_loopw [5] (fun ix wr=>∃x:Int, -1≤x∧x≤c.li+1∧ix=.int .i64 x∧Chg [] w wr) (fun ix _=>(c.li+1-intOf ix).toNat)
 case atStart=>exact ⟨-1,by omega,by omega,rfl,Chg.refl _ _⟩
 case round=>
  obtain ⟨x,hx0,hx1,rfl,hch⟩:=hrel
  have HCH:=Vh hch
  have rSr:=hch.keep rS Vn
  have oSr:=old rSr
  clear hch rS
  by_cases hlt:x≤(c.li:Int)
  ·have t1:decide (x≤(c.li:Int))=true:=decide_eq_true hlt
   by_cases hin:inB x c.li=true
   ·obtain ⟨j,rfl⟩:=Int.eq_ofNat_of_zero_le (XW.1 hin).1
    have hj:j<c.li:=by have:=(XW.1 hin).2;omega
    have HJ:=Vh hj
    have HIN:=Vh hin
    obtain ⟨e,he⟩:∃e,S.en[j]? =some e:=⟨_,List.getElem?_eq_getElem (by rw [HH.out.lines];exact hj)⟩
    have HE:=Vh he
    have g0:(0:Int)≤(j:Int):=by omega
    have g1:(j:Int)<(c.li:Int):=by omega
    clear hj hin hx0 he
    go_wp2_with fail
    refine (mentry_ok (Mem.keep HM.out HCH.out) j e HE.out).mono ?_
    rintro r w2 ⟨rfl,c2⟩
    have C2:=Vh (HCH.out.trans c2)
    clear c2
    go_upto_region 5 with fail
    have r3:(w2.alloc (.cells (ec e) 56)).heap[w2.heap.size]? =some (.cells (ec e) 56 (0,0)):=by simp
    have C3:=Vh (C2.out.alloc (.cells (ec e) 56))
    generalize w2.heap.size=b3 at r3 ⊢
    generalize w2.alloc (.cells (ec e) 56)=w3 at r3 C3 ⊢
    have hl:=Xu (j:Int) true w3 (HH.out.keep C3.out) HIN.out
    have HL:=Vh hl
    have o3:=old r3
    clear hl oSr rSr
    go_wp2_with fail
    refine HL.out.mono ?_
    rintro r w' ⟨rfl,rfl⟩
    have rS3:=C3.out.keep HH.out.sys Vn
    have rE3:=C3.out.keep HH.out.ents Vn
    have oS3:=old rS3
    have oE3:=old rE3
    have q0:=fun t f=>JU HE.out z.er t f
    have q1:=fun t f=>Qg0 HE.out z.er t f
    have KPH:=Vh (show ∀w',Chg [] w3 w'→(w'.heap[z.sy]? =some (.cells (z.enc c).toArray 107 (0,0))∧w'.heap[z.en]? =some (.cells (sq En.enc S.en z.er) 117 (0,0))∧w'.heap[b3]? =some (.cells (ec e) 56 (0,0))) from fun w' h=>⟨h.keep rS3 Vn,h.keep rE3 Vn,h.keep r3 Vn⟩)
    go_wp2_with fail
    go_region_held3 (fun w'=>w'.heap[z.sy]? =some (.cells (z.enc c).toArray 107 (0,0))∧w'.heap[z.en]? =some (.cells (sq En.enc S.en z.er) 117 (0,0))∧w'.heap[b3]? =some (.cells (ec e) 56 (0,0))) (first |exact ⟨rS3,rE3,r3⟩|with_reducible exact KPH.out _ ((Chg.refl [] w3).drew)|with_reducible exact KPH.out _ (Chg.trans ((Chg.refl [] w3).drew) cw7))
     (first |(go_at_call 65;refine (down_any _ _).mono ?_;rintro r w7 ⟨rfl,cw7⟩))
    all_goals
     have C7:=Vh ((C3.out.drew).trans cw7)
     clear cw7 rS3 rE3 oS3 oE3 r3 o3
     go_wp2_with fail
     go_roundw
     case rel=>exact ⟨(j:Int)+1,by omega,by omega,by go_num,C7.out⟩
     case measure=>simp [intOf];omega
   ·have HIN:=Vh (show inB x c.li=false by simpa using hin)
    have e1:enE.he=false:=rfl
    have e2:enE.ow= -1:=rfl
    have e3:(enE.sh !=0#8)=false:=by decide
    have e4:enE.bu=0:=rfl
    clear hin
    go_wp2_with fail
    refine (mentry_off (Mem.keep HM.out HCH.out) x HIN.out).mono ?_
    rintro r w2 ⟨rfl,c2⟩
    have C2:=Vh (HCH.out.trans c2)
    clear c2
    go_upto_region 5 with fail
    have r3:(w2.alloc (.cells (ec enE) 56)).heap[w2.heap.size]? =some (.cells (ec enE) 56 (0,0)):=by simp
    have C3:=Vh (C2.out.alloc (.cells (ec enE) 56))
    generalize w2.heap.size=b3 at r3 ⊢
    generalize w2.alloc (.cells (ec enE) 56)=w3 at r3 C3 ⊢
    have hl:=Xu x false w3 (HH.out.keep C3.out) HIN.out
    have HL:=Vh hl
    have o3:=old r3
    clear hl oSr rSr
    go_wp2_with fail
    refine HL.out.mono ?_
    rintro r w' ⟨rfl,rfl⟩
    go_wp2_with fail
    go_roundw
    case rel=>exact ⟨x+1,by omega,by omega,by go_num,C3.out⟩
    case measure=>simp [intOf];omega
  ·have t1:decide (x≤(c.li:Int))=false:=decide_eq_false hlt
   clear hlt hx0 hx1
   clear oSr
   go_wp2_with fail
   rename World=>wz
   have HCZ:=Vh HCH.out
   have HMZ:=Vh (show MS W wz c sy F S from Mem.keep HM.out HCH.out)
   have HHZ:=Vh (HH.out.keep HCH.out)
   have rSz:=rSr
   clear rSr HCH
   go_loopw [7] (fun ix wy=>∃k:Nat,k≤c.co∧ix=.int .i64 k∧Chg [] wz wy) (fun ix _=>c.co-(intOf ix).toNat)
   case atStart=>exact ⟨0,by omega,rfl,Chg.refl _ _⟩
   case round=>
    obtain ⟨k,hk,rfl,hch⟩:=hrel
    have HCY:=Vh hch
    rename World=>wy
    have rSy:=hch.keep rSz Vn
    have oSy:=old rSy
    clear hch rSz
    by_cases hlk:k<c.co
    ·have g0:(0:Int)≤(k:Int):=by omega
     have g1:(k:Int)<(c.co:Int):=by omega
     obtain ⟨⟨p,y⟩,hy⟩:∃y,L[k]? =some y:=⟨_,List.getElem?_eq_getElem (by rw [HHZ.out.cores];exact hlk)⟩
     have HY:=Vh hy
     have hx:S.ps[k]? =some y:=by rw [←HPS.out];exact Jq hy
     have HX:=Vh hx
     have hP:PtI c n y:=(Y3 hx)▸HI.out.pt k hlk
     have HP:=Vh hP
     have HU:=Vh (show y.up.length≤1000∧y.an.length≤1000∧y.dn.length≤1000 by have:=hP.up;have:=hP.an;have:=hP.dn;have:=HNN.out;omega)
     clear hP hx hy hlk
     go_wp2_with fail
     refine (mqueues_ok (Mem.keep HMZ.out HCY.out) k y HX.out HU.out.1 HU.out.2.1 HU.out.2.2).mono ?_
     rintro e w1 hq
     obtain ⟨A1,n1,A2,n2,A3,n3,rfl,s1,s2,s3,c1⟩:=hq
     have C1:=Vh (show Chg [] wz w1 from HCY.out.trans c1)
     have H1:=Vh (HHZ.out.keep C1.out)
     have M1:=Vh (show MS W w1 c sy F S from Mem.keep HMZ.out C1.out)
     have S1:=Vh s1
     have S2:=Vh s2
     have S3:=Vh s3
     have OKP:=Vh (H1.out.ok _ (List.mem_of_getElem? HY.out))
     clear c1 s1 s2 s3 rSy oSy
     have hc0:(sq Yz L [])[k*3]? =some (.slice p.uA y.up.length p.uc):=Qc6 HY.out 0 (by decide)
     have hc1:(sq Yz L [])[k*3+1]? =some (.slice p.nA y.an.length p.nc):=Qc6 HY.out 1 (by decide)
     have hc2:(sq Yz L [])[k*3+2]? =some (.slice p.dA y.dn.length p.dc):=Qc6 HY.out 2 (by decide)
     have hg:(sq Qbc L z.ar)[k]? =some (.pointer (some ⟨p.g,0,none⟩)):=by
      have:=YC Jp HY.out z.ar 0 (by decide)
      exact Tz88
     have KPH:=Vh (show ∀w',Chg [] w1 w'→(w'.heap[z.sy]? =some (.cells (z.enc c).toArray 107 (0,0))∧w'.heap[z.po]? =some (.cells (sq Yz L []) 121 (0,0))∧w'.heap[z.ab]? =some (.cells (sq Qbc L z.ar) 127 (0,0))∧w'.heap[p.g]? =some (.cells #[.pointer (some ⟨p.a,0,none⟩)] 126 (0,0))) from fun w' h=>⟨h.keep H1.out.sys Vn,h.keep H1.out.ports Vn,h.keep H1.out.agts Vn,h.keep OKP.out.1.2.1 Vn⟩)
     have HQ1:=Vh (fun w' (h:Chg [] w1 w')=>Qgj A1 p.uA y.up.length n1 p.uc y.up w' (S1.out.chg h (by simp)) ((OKP.out.2.1.sl Ms.len).chg h (by simp)) rfl (by have:=HU.out;omega))
     have HQ2:=Vh (fun w' (h:Chg [] w1 w')=>Qgj A2 p.nA y.an.length n2 p.nc y.an w' (S2.out.chg h (by simp)) ((OKP.out.2.2.1.sl Ms.len).chg h (by simp)) rfl (by have:=HU.out;omega))
     have HQ3:=Vh (fun w' (h:Chg [] w1 w')=>Qgj A3 p.dA y.dn.length n3 p.dc y.dn w' (S3.out.chg h (by simp)) ((OKP.out.2.2.2.sl Ms.len).chg h (by simp)) rfl (by have:=HU.out;omega))
     have HQ4:=Vh (fun w' (h:Chg [] w1 w')=>mslots_ok (Mem.keep M1.out h) k y HX.out)
     have HQ5:=Vh (fun w' (h:Chg [] w1 w')=>rslots_ok p.a p.b c.se c.wa y.s.1 y.s.2 w' (OKP.out.1.1.keep h (by simp) (by simp)))
     have HLV:=Vh (show (live y.s.1).length≤100000 from Nat.le_trans (List.length_filter_le _ _) (by have h64:y.s.1.length≤64:=OKP.out.1.1.2.2.2.len64;omega))
     have rS1:=H1.out.sys
     have rQ1:=H1.out.ports
     have rA1:=H1.out.agts
     have rG1:=OKP.out.1.2.1
     have oS1:=old rS1
     have oQ1:=old rQ1
     have oA1:=old rA1
     have oG1:=old rG1
     go_wp2_with fail
     go_region_held3 (fun w'=>(w'.heap[z.sy]? =some (.cells (z.enc c).toArray 107 (0,0))∧w'.heap[z.po]? =some (.cells (sq Yz L []) 121 (0,0))∧w'.heap[z.ab]? =some (.cells (sq Qbc L z.ar) 127 (0,0))∧w'.heap[p.g]? =some (.cells #[.pointer (some ⟨p.a,0,none⟩)] 126 (0,0)))) (first |exact ⟨rS1,rQ1,rA1,rG1⟩|with_reducible exact KPH.out _ T6|with_reducible exact KPH.out _ T5|with_reducible exact KPH.out _ T4|with_reducible exact KPH.out _ T3|with_reducible exact KPH.out _ T2|with_reducible exact KPH.out _ T1|with_reducible exact KPH.out _ ((Chg.refl [] w1).drew))
      (first
       |(go_at_call 66;(with_reducible refine (HQ1.out _ ((Chg.refl [] w1).drew)).mono ?_);rintro e w71 ⟨rfl,cw⟩;have T1:=Chg.trans ((Chg.refl [] w1).drew) cw;clear cw)
       |(go_at_call 66;(with_reducible refine (HQ2.out _ T1).mono ?_);rintro e w72 ⟨rfl,cw⟩;have T2:=Chg.trans T1 cw;clear cw)
       |(go_at_call 66;(with_reducible refine (HQ3.out _ T2).mono ?_);rintro e w73 ⟨rfl,cw⟩;have T3:=Chg.trans T2 cw;clear cw)
       |(go_at_call 19;(with_reducible refine (HQ4.out _ T3).mono ?_);rintro e w74 ⟨A4,n4,rfl,h4,cw⟩;have T4:=Chg.trans T3 cw;clear cw)
       |(go_at_call 68;(with_reducible refine (HQ5.out _ T4).mono ?_);rintro e w75 ⟨A5,n5,rfl,h5,cw⟩;have T5:=Chg.trans T4 cw;have h45:=h4.chg cw (by simp);clear cw)
       |(go_at_call 67;refine (same_ok A4 A5 (live y.s.1).length n4 n5 (live y.s.1) _ h45 h5 rfl HLV.out).mono ?_;rintro e w76 ⟨rfl,cw⟩;have T6:=Chg.trans T5 cw;clear cw))
     all_goals
      have C6:=Vh (C1.out.trans T6)
      clear rS1 rQ1 rA1 rG1 oS1 oQ1 oA1 oG1 T1 T2 T3 T4 T5 T6 h4 h5 h45 hc0 hc1 hc2 hg
      go_wp2_with fail
      go_roundw
      case rel=>exact ⟨k+1,by omega,by go_num,C6.out⟩
      case measure=>simp [intOf];omega
    ·obtain rfl:k=c.co:=by omega
     have HHY:=Vh (HHZ.out.keep HCY.out)
     have HMY:=Vh (show MS W wy c sy F S from Mem.keep HMZ.out HCY.out)
     have KPH:=Vh (show ∀w',Chg [] wy w'→w'.heap[z.sy]? =some (.cells (z.enc c).toArray 107 (0,0)) from fun w' h=>h.keep HHY.out.sys Vn)
     have HQ1:=Vh (fun w' (h:Chg [] wy w')=>mwaiting_ok (Mem.keep HMY.out h))
     have HQ2:=Vh (fun w' (h:Chg [] wy w')=>rqlines_ok z.q z.be z.g c.li c.qu S.es w' (HHY.out.mem.2.keep h (by simp)).1)
     have HQ3:=Vh (fun w' (h:Chg [] wy w')=>mmemory_ok (Mem.keep HMY.out h))
     have HQ4:=Vh (fun w' (h:Chg [] wy w')=>rqimage_ok z.q z.be z.g z.b c.li c.vo c.qu S.es S.xs w' (HHY.out.mem.2.keep h (by simp)).1 (HHY.out.mem.2.keep h (by simp)).2.1)
     have HPL:=Vh (show (poss S.es).length≤100000 by have h1:=HHY.out.mem.2.1.2.1;have h2:=HHY.out.mem.2.1.2.2.2.1;simp [poss];omega)
     have HLX:=Vh (show (over S.xs S.es).length=c.li*8 from HI.out.lX)
     have HL64:=Vh (show c.li≤100000 by have:=HI.out.ok.li64;omega)
     clear hk
     go_wp2_with fail
     go_region_held3 (fun w'=>w'.heap[z.sy]? =some (.cells (z.enc c).toArray 107 (0,0))) (first |exact rSy|with_reducible exact KPH.out _ T6|with_reducible exact KPH.out _ T5|with_reducible exact KPH.out _ T4|with_reducible exact KPH.out _ T3|with_reducible exact KPH.out _ T2|with_reducible exact KPH.out _ T1|with_reducible exact KPH.out _ ((Chg.refl [] wy).drew))
      (first
       |(go_at_call 23;(with_reducible refine (HQ1.out _ ((Chg.refl [] wy).drew)).mono ?_);rintro e w71 ⟨A1,n1,rfl,h1,cw⟩;have T1:=Chg.trans ((Chg.refl [] wy).drew) cw;clear cw)
       |(go_at_call 70;(with_reducible refine (HQ2.out _ T1).mono ?_);rintro e w72 ⟨A2,n2,rfl,h2,cw⟩;have T2:=Chg.trans T1 cw;have h12:=h1.chg cw (by simp);clear cw)
       |(go_at_call 69;refine (ints_same A1 A2 (poss S.es).length n1 n2 (poss S.es) _ h12 h2 HPL.out).mono ?_;rintro e w73 ⟨rfl,cw⟩;have T3:=Chg.trans T2 cw;clear cw)
       |(go_at_call 18;(with_reducible refine (HQ3.out _ T3).mono ?_);rintro e w74 ⟨g4,n4,r4,rfl,h4,_,_,cw⟩;have T4:=Chg.trans T3 cw;clear cw)
       |(go_at_call 72;(with_reducible refine (HQ4.out _ T4).mono ?_);rintro e w75 ⟨b5,n5,rfl,h5,cw⟩;have T5:=Chg.trans T4 cw;have h45:=Sl.of_bk (n:=c.li) (cw.keep h4 Vn) HLX.out;clear cw)
       |(go_at_call 71;refine (lines_same g4 0 b5 0 c.li n4 n5 (over S.xs S.es) _ h45 h5 HL64.out).mono ?_;rintro e w76 ⟨rfl,cw⟩;have T6:=Chg.trans T5 cw;clear cw))
     all_goals
      have C6:=Vh (((HCZ.out.trans HCY.out).trans T6))
      clear T1 T2 T3 T4 T5 T6 h1 h2 h12 h4 h5 h45
      go_wp2_with fail
      go_ret
      exact ⟨rfl,C6.out⟩
end
end
end Go.Proofs.YtadeoflkppiflaaGreatDoor
