/- Ends of proofs that many texts have in common, each as a default argument. No condition. -/
import Derived.Below
import Derived.BigGuard
import Derived.BigGuardPart
import Derived.BigQuiet
import Derived.ChangeAlike
import Derived.ChangeArms
import Derived.ChangeKeysEq
import Derived.Deep.Cut
import Derived.Deep.CutBlock
import Derived.Deep.CutRange
import Derived.Deep.DeepCutAuto
import Derived.Deep.MidRow
import Derived.Deep.Quiet
import Derived.Deep.QuietTactic
import Derived.Deep.RegionHeld3
import Derived.Deep.RegionLaw
import Derived.Deep.RegionWith
import Derived.DeepKeys
import Derived.Defers
import Derived.Handed
import Derived.IntWalk
import Derived.LaidHandle
import Derived.LaidMore
import Derived.Laws.Bits64b
import Derived.Laws.BitsAllLaws
import Derived.Laws.Entries
import Derived.Laws.LoneSync
import Derived.Laws.NewBlocks
import Derived.Laws.Pointers
import Derived.Laws.StructEq
import Derived.Lib.Hide
import Derived.Lib.SliceRun
import Derived.Maps.OwnOps
import Derived.OpenShut
import Derived.ProofKit
import Derived.RegionCalls
import Derived.RegionTactic
import Derived.StillTail
import Derived.StillTailTactics
import Derived.Stop.Joined
import Derived.Tactics
import Derived.Tactics2
import Derived.WalkKit
import Derived.WideShapes
namespace Go.Proofs.YtlidfghgjjffaaaGreatDoor
open Go.RowKit
set_option linter.unusedVariables false
theorem Vn {α:Type} {a:α}:a∉([]:List α):=List.not_mem_nil
theorem Vh {p:Prop} (h:p):Hid p:=Lib.hid h
theorem Vm {α:Type} {a b:α} (h:a=b):a∈[b]:=List.mem_singleton.2 h
theorem Vs {α:Type} {a b:α} (h:a∈[b]):a=b:=List.mem_singleton.1 h
theorem Vg {α:Type} {l:List α} {i:Nat} {a:α} (h:l[i]? =some a):∃h:i<l.length,l[i]=a:=List.getElem?_eq_some_iff.1 h
theorem Cz0 {p:Prop} (h:p:=by (repeat' (first |with_reducible exact Chg.refl _ _|with_reducible assumption|with_reducible refine Chg.drew ?_|with_reducible refine Chg.drewN ?_ _|with_reducible refine Chg.alloc ?_ _|with_reducible refine Chg.putRow ?_ _ _ _ (.inr ?_)|with_reducible refine Chg.setCell ?_ _ _ _ (.inr ?_)|(show _≤_;first |exact Nat.le_refl _|omega|(simp;done))))):p:=h
theorem Cz1 {p:Prop} (h:p:=by (repeat' (first |exact Chg.refl _ _|assumption|exact Chg.refl [] _|refine Chg.drew ?_|refine Chg.drewN ?_ _|refine Chg.alloc ?_ _|refine Chg.putRow ?_ _ _ _ (.inr (by first |exact Nat.le_refl _|omega|simp))|refine Chg.setCell ?_ _ _ _ (.inr (by first |exact Nat.le_refl _|omega|simp))))):p:=h
theorem Cz2 {p:Prop} (h:p:=by (repeat' (first |with_reducible exact T3|with_reducible exact Chg.refl _ _|with_reducible refine Chg.alloc ?_ _|with_reducible refine Chg.drew ?_|with_reducible refine Chg.putRow ?_ _ _ _ (.inr ?_)|with_reducible exact Chg.size T3|with_reducible exact Nat.le_refl _))):p:=h
theorem Cz3 {p:Prop} (h:p:=by (repeat' (first |with_reducible exact cO|with_reducible exact Chg.refl _ _|with_reducible refine Chg.alloc ?_ _|with_reducible refine Chg.drew ?_|with_reducible refine Chg.putRow ?_ _ _ _ (.inr ?_)|with_reducible exact Chg.size cO|with_reducible exact Nat.le_refl _))):p:=h
theorem Cz4 {p:Prop} (h:p:=by first |exact Nat.le_refl _|omega|simp):p:=h
theorem Cz5 {p:Prop} (h:p:=by intro a ha;have:=hA3 a ha;have:=oR.lt;simp;omega):p:=h
theorem Cz6 {p:Prop} (h:p:=by (repeat' (first |with_reducible exact Chg.refl _ _|with_reducible refine Chg.alloc ?_ _|with_reducible refine Chg.drew ?_))):p:=h
theorem Cz7 {p:Prop} (h:p:=by first |exact o0|exact o0.chg C1|(show (0:Nat)<_;simpa using o0.lt)):p:=h
theorem Cz8 {p:Prop} (h:p:=by first |exact rR2|(simp [rR2];done)):p:=h
theorem Cz9 {p:Prop} (h:p:=by simp (maxDischargeDepth:=8) [*];try rfl):p:=h
theorem Cz10 {p:Prop} (h:p:=by have:=HN.out;omega):p:=h
theorem Cz11 {p:Prop} (h:p:=by first |exact Chg.drew (Chg.refl [] w3)|exact Chg.alloc (Chg.drew (Chg.refl [] w3)) _):p:=h
theorem Cz12 {p:Prop} (h:p:=by rw [←HN.out];exact hlt):p:=h
theorem Cz13 {p:Prop} (h:p:=by have h1:=hq.lt;have h2:w.drew.heap.size=w.heap.size:=rfl;omega):p:=h
theorem Cz14 {p:Prop} (h:p:=by unfold maxLen;omega):p:=h
theorem Cz15 {p:Prop} (h:p:=by (repeat' (first |with_reducible exact Chg.refl _ _|with_reducible assumption|with_reducible refine Chg.drew ?_|with_reducible refine Chg.alloc ?_ _))):p:=h
theorem Cz16 {p:Prop} (h:p:=by first |exact DA.out|exact DB.out|exact DC.out|exact DW.out|exact DX.out):p:=h
theorem Cz17 {p:Prop} (h:p:=by first |exact o0|exact Old.chg (b:=0) (by exact o0) c3|exact Old.chg (b:=0) o0 c3|(show (0:Nat)<_;have:=o0.lt;have:=c3.size;simp at *;omega)):p:=h
theorem Cz18 {p:Prop} (h:p:=by first |exact hA2|exact (fun a ha=>Nat.le_trans c3.size (hA2 a ha))|(intro a ha;have:=hA2 a ha;have:=c3.size;simp at *;omega)):p:=h
theorem Tz0 {p:Prop} (h:p:=by
 have _:=hI
 have _:=hN
 have _:=hn
 have _:=hR
 have _:=hR2
 have _:=hT
 have hg:YY (Qz u)=true:=by unfold decB at hd;rw [Bool.and_eq_true] at hd;exact hd.1
 obtain ⟨_,ga,gb,gc,gm⟩:=Zw hg
 have hpl:=(Vg hx).1
 have hpn:=h.co.ok.np
 have hp:(QO Q u).pc<2147483648:=by show Q.pc<_;omega
 have DH:=Qbs h.co hx
 rw [hd,show decI u=Qz u by unfold decI;rw [hd];rfl] at DH
 have HD:=Vh DH
 have RU:=Qa7 h.co.own
 rw [hru] at RU
 have HRU:=Vh RU
 have HP:=Vh hp
 have H1:=Vh (fun (w1:World) (hc:Chg [pb] w w1) (hC:Cor w1 kb pb qb (QO Q u))=>h.core (hc.mono (by simp)) hC)
 have EA:=Vh (fun (w':World) (h':CS W w' c sy F S kb pb qb (QO Q u))=>Qe7 h' hI hN hn hR (fun li wo=>hR2 li wo) hT (Qz u) hg (by omega) hp)
 have h8:(QO Q u).rg.length=8:=h.co.ok.h8
 clear h hI hN hn hR hR2 hT hru hx hd DH RU ga gb gc gm hg hpl hpn hp
 generalize Qz u=i at *
 generalize QO Q u=Q1 at *
 go_enter Tryz.func78,Tryz.ntmps78
 try dsimp only [List.append]
 go_wp2_with (first |(go_at_call 63;refine HRU.out.mono ?_;rintro e w' ⟨rfl,rfl⟩)|(go_at_call 100;refine HD.out.mono ?_;rintro e w1 ⟨rfl,hC1,hc1⟩;have hb1:=hC1.own;have H1:=Vh (H1.out w1 hc1 hC1);have C1:=Vh hc1;clear hC1 hc1))
 have hx2:(w1.alloc (.cells (insc i) 65)).heap[w1.heap.size]? =some (.cells (insc i) 65 (0,0)):=by simp
 have C2:=Vh (show Chg [] w1 (w1.alloc (.cells (insc i) 65)) from (Chg.refl [] w1).alloc _)
 have hb2:=C2.out.keep hb1 (by simp)
 have H2:=Vh (H1.out.keep0 C2.out)
 have HPK:=Vh (show w1.heap.size≠kb∧w1.heap.size∉F from ⟨by have:=H1.out.co.oldk.lt;omega,fun hm=>by have:=H1.out.old _ hm;omega⟩)
 have G2:=Vh (show Chg (kb::pb::qb::F) w (w1.alloc (.cells (insc i) 65)) from Z7 ((C1.out.mono (by simp)).trans (C2.out.mono (by simp))))
 clear hb1 H1 C1 C2 HD HRU
 generalize w1.alloc (.cells (insc i) 65)=w2 at *
 generalize w1.heap.size=p at *
 have o2:=old hb2
 have ox2:=old hx2
 have n1:¬p=kb:=HPK.out.1
 have n2:¬kb=p:=fun e=>HPK.out.1 e.symm
 refine (EA.out _ H2.out).mono ?_
 rintro e w4 ⟨v,F',rfl,hd⟩
 go_wp2_with fail
 go_ret
 exact CSTo.from G2.out (fun k hk=>.inl hk) ⟨v,F',rfl,hd⟩):p:=h
theorem Tz1 {p:Prop} (h:p:=by
 rw [eb,ec,hk,hna]
 clear eb ec p1 p2
 have h8:(QO Q u).rg.length=8:=h.co.ok.h8
 clear h hI hN hn hR hR2 hT hru hx hd DH RU ga gb gc gm hg hpl hpn hp
 generalize Qz u=i at *
 generalize QO Q u=Q1 at *
 go_enter Tryz.func78,Tryz.ntmps78
 try dsimp only [List.append]
 go_wp2_with (first |(go_at_call 63;refine HRU.out.mono ?_;rintro e w' ⟨rfl,rfl⟩)|(go_at_call 100;refine HD.out.mono ?_;rintro e w1 ⟨rfl,hC1,hc1⟩;have hb1:=hC1.own;have H1:=Vh (H1.out w1 hc1 hC1);have C1:=Vh hc1;clear hC1 hc1))
 have hx2:(w1.alloc (.cells (insc i) 65)).heap[w1.heap.size]? =some (.cells (insc i) 65 (0,0)):=by simp
 have C2:=Vh (show Chg [] w1 (w1.alloc (.cells (insc i) 65)) from (Chg.refl [] w1).alloc _)
 have hb2:=C2.out.keep hb1 (by simp)
 have H2:=Vh (H1.out.keep0 C2.out)
 have HPK:=Vh (show w1.heap.size≠kb∧w1.heap.size∉F from ⟨by have:=H1.out.co.oldk.lt;omega,fun hm=>by have:=H1.out.old _ hm;omega⟩)
 have G2:=Vh (show Chg (kb::pb::qb::F) w (w1.alloc (.cells (insc i) 65)) from Z7 ((C1.out.mono (by simp)).trans (C2.out.mono (by simp))))
 clear hb1 H1 C1 C2 HD HRU
 generalize w1.alloc (.cells (insc i) 65)=w2 at *
 generalize w1.heap.size=p at *
 have o2:=old hb2
 have ox2:=old hx2
 have n1:¬p=kb:=HPK.out.1
 have n2:¬kb=p:=fun e=>HPK.out.1 e.symm
 have R1:∀y:Aft w2.heap.size w2,y.w.heap[p]? =some (.cells (insc i) 65 (0,0)):=fun y=>(y.block ox2.lt).trans hx2
 have R2:∀y:Aft w2.heap.size w2,y.w.heap[kb]? =some (.cells (coc Q1.id Q1.ru Q1.rg pb Q1.pr.length Q1.pc qb Q1.wt) 124 (0,0)):=fun y=>(y.block o2.lt).trans hb2
 refine XS w2.heap.size 26 22 (by kernel_rfl) (by kernel_rfl) (fun ou v a ho hy=>by
  obtain rfl:=Option.some.inj ho
  exact Jv rfl ⟨⟨w2,Below.refl _ _⟩,rfl⟩ hy) (fun d v c a w h=>by cases d<;>exact h) ?_
 simp only [List.take_succ_cons,List.take_zero,List.drop_succ_cons,List.drop_zero]
 repeat (go_big_quiet_step (first |(go_at_call 102;exact Jw (Nat.le_refl _) (GD.out _))))
 refine wpQuiet_nil ?_
 rintro _ ⟨y,rfl⟩
 have CY:=Vh (Below.chg y.below (Nat.le_refl _))
 have H3:=Vh (H2.out.keep0 CY.out)
 have r1:=R1 y
 have r2:=R2 y
 generalize y.w=w3 at *
 go_wp2_with fail
 refine (EN.out _ _ (H3.out.setReg la HV.out) HP.out).mono ?_
 rintro e w4 ⟨v,F',rfl,hd⟩
 go_wp2_with fail
 go_ret
 exact CSTo.from ((G2.out.trans (CY.out.mono (by simp))).trans (Z7 ((Chg.refl [kb,pb,qb] w3).setCell kb _ _ (.inl (by simp))))) (fun k hk=>.inl hk) ⟨v,F',rfl,hd⟩):p:=h
theorem Tz2 {p:Prop} (h:p:=by
 exact ⟨rfl,by (repeat' (first |with_reducible exact Chg.refl _ _|with_reducible assumption|with_reducible refine Chg.drew ?_|with_reducible refine Chg.drewN ?_ _|with_reducible refine Chg.alloc ?_ _|with_reducible refine Chg.putRow ?_ _ _ _ (.inr ?_)|with_reducible refine Chg.setCell ?_ _ _ _ (.inr ?_)|(show _≤_;first |exact Nat.le_refl _|omega|(simp;done))))⟩):p:=h
theorem Tz3 {p:Prop} (h:p:=by
 have EJ:=Vh (fun (w':World) (h':CS W w' c sy F S kb pb qb (QO Q u))=>(djump h'.co h'.old (Qz u) ga gb hgm hp).mono fun e w' hd=>h'.ofCo hd)
 have h8:(QO Q u).rg.length=8:=h.co.ok.h8
 clear h hI hN hn hR hR2 hT hru hx hd DH RU ga gb gc gm hg hpl hpn hp
 generalize Qz u=i at *
 generalize QO Q u=Q1 at *
 generalize (if goV i.op (regA Q1 i.a) (regA Q1 i.b) then {Q1 with pc:=i.im.toNat} else YM Q1)=Q2 at *
 go_enter Tryz.func78,Tryz.ntmps78
 try dsimp only [List.append]
 go_wp2_with (first |(go_at_call 63;refine HRU.out.mono ?_;rintro e w' ⟨rfl,rfl⟩)|(go_at_call 100;refine HD.out.mono ?_;rintro e w1 ⟨rfl,hC1,hc1⟩;have hb1:=hC1.own;have H1:=Vh (H1.out w1 hc1 hC1);have C1:=Vh hc1;clear hC1 hc1))
 have hx2:(w1.alloc (.cells (insc i) 65)).heap[w1.heap.size]? =some (.cells (insc i) 65 (0,0)):=by simp
 have C2:=Vh (show Chg [] w1 (w1.alloc (.cells (insc i) 65)) from (Chg.refl [] w1).alloc _)
 have hb2:=C2.out.keep hb1 (by simp)
 have H2:=Vh (H1.out.keep0 C2.out)
 have HPK:=Vh (show w1.heap.size≠kb∧w1.heap.size∉F from ⟨by have:=H1.out.co.oldk.lt;omega,fun hm=>by have:=H1.out.old _ hm;omega⟩)
 have G2:=Vh (show Chg (kb::pb::qb::F) w (w1.alloc (.cells (insc i) 65)) from Z7 ((C1.out.mono (by simp)).trans (C2.out.mono (by simp))))
 clear hb1 H1 C1 C2 HD HRU
 generalize w1.alloc (.cells (insc i) 65)=w2 at *
 generalize w1.heap.size=p at *
 have o2:=old hb2
 have ox2:=old hx2
 have n1:¬p=kb:=HPK.out.1
 have n2:¬kb=p:=fun e=>HPK.out.1 e.symm
 refine (EJ.out _ H2.out).mono ?_
 rintro e w4 ⟨v,F',rfl,hd⟩
 go_wp2_with fail
 go_ret
 exact CSTo.from G2.out (fun k hk=>.inl hk) ⟨v,F',rfl,hd⟩):p:=h
theorem Tz4 {p:Prop} (h:p:=by
 have HGX:=Vh hgn
 clear hmz hgz hgn
 by_cases hlt:j<l.length
 ·obtain ⟨x,hx⟩:∃x,l[j]? =some x:=⟨l[j]'hlt,List.getElem?_eq_getElem _⟩
  have g3:(j:Int)<(l.length:Int):=by omega
  have g0:(0:Int)≤(j:Int):=by omega
  have gl2:(l.length:Int)≤1500:=by have:=HL15.out;omega
  obtain ⟨b0,o0,hA⟩:=HL.out.addr (by omega)
  subst hA
  obtain ⟨cA,tA,fA,hA,_,hpart⟩:=(HL.out.keep0 HMZ.out.chg (fun _ _ _=>Vn)).elem (by omega) hlt (YI Ac.len hx)
  obtain ⟨hin,hpt⟩:=hpart 0 3 (by omega)
  have hcl:=(HL.out.keep0 HMZ.out.chg (fun _ _ _=>Vn)).cells
  rw [Nat.add_zero] at hin hpt
  rw [show ((Ac.enc x).drop 0 |>.take 3).toArray=acc x from rfl] at hpt
  obtain ⟨hin1,hpt1⟩:=hpart 0 1 (by omega)
  rw [Nat.add_zero] at hin1 hpt1
  have hk0:cA[o0+j*3]? =some (.int .i64 x.kd):=by
   have h1:=congrArg (fun a:Array Value=>a[0]?) hpt1
   rw [Xi] at h1
   simpa [Ac.enc] using h1
  have oA:=old hA
  have HLT:=Vh hlt
  clear hx hlt hpart hj hcl hpt1 hin1
  by_cases hk:7≤x.kd∧x.kd≤10
  ·obtain ⟨k1,k2⟩:=hk
   go_wp2_with fail
   go_roundw
   case rel=>exact ⟨j+1,Fz,HLT.out,by go_num,HMZ.out,HGZ.out,HGX.out⟩
   case measure=>have:=HLT.out;simp [intOf];omega
  ·have hst:=Qib HI.out HQB.out x.kd x.co x.li (by omega)
   have HST:=Vh hst
   have hdo:=mdoS HMZ.out HI.out Cz10 HT.out x
   rw [hst] at hdo
   have HDO:=Vh hdo
   have tk:(decide (7≤x.kd)&&decide (x.kd≤10))=false:=by
    by_cases h7:7≤x.kd
    ·have:¬x.kd≤10:=fun h=>hk ⟨h7,h⟩
     simp [this]
    ·simp [h7]
   clear hst hdo
   by_cases h7:7≤x.kd
   ·have h10:¬x.kd≤10:=fun h=>hk ⟨h7,h⟩
    clear hk tk
    go_wp2_with (first
     |(go_at_call 12;refine HDO.out.mono ?_;rintro e w11 ⟨v,F11,rfl,⟨A11,c11,rfl,hs11,_⟩,hm11,k11,hF11⟩;have HM11:=Vh hm11;have HG11:=Vh (k11.keep HGZ.out HGX.out);have HX11:=Vh (show g∉F11 from fun hm=>by rcases hF11 g hm with h|h;exact HGX.out h;have:=Z6 HGZ.out;omega);clear hm11 k11 hF11 hs11)
     |(go_at_call 17;refine (Qdm HM11.out HI.out).mono ?_;rintro e w12 ⟨rfl,c12⟩;rw [HQB.out];have HM12:=Vh (HM11.out.keep0 c12);have HG12:=Vh (c12.keep HG11.out Vn);clear c12))
    go_roundw
    case rel=>exact ⟨j+1,F11,HLT.out,by go_num,HM12.out,HG12.out,HX11.out⟩
    case measure=>have:=HLT.out;simp [intOf];omega
   ·clear hk tk
    go_wp2_with (first
     |(go_at_call 12;refine HDO.out.mono ?_;rintro e w11 ⟨v,F11,rfl,⟨A11,c11,rfl,hs11,_⟩,hm11,k11,hF11⟩;have HM11:=Vh hm11;have HG11:=Vh (k11.keep HGZ.out HGX.out);have HX11:=Vh (show g∉F11 from fun hm=>by rcases hF11 g hm with h|h;exact HGX.out h;have:=Z6 HGZ.out;omega);clear hm11 k11 hF11 hs11)
     |(go_at_call 17;refine (Qdm HM11.out HI.out).mono ?_;rintro e w12 ⟨rfl,c12⟩;rw [HQB.out];have HM12:=Vh (HM11.out.keep0 c12);have HG12:=Vh (c12.keep HG11.out Vn);clear c12))
    go_roundw
    case rel=>exact ⟨j+1,F11,HLT.out,by go_num,HM12.out,HG12.out,HX11.out⟩
    case measure=>have:=HLT.out;simp [intOf];omega
 ·have hjj:j=l.length:=by omega
  subst hjj
  have g1:¬(l.length:Int)<(l.length:Int):=by omega
  obtain ⟨cb1,sy1,F1,ks1,hm1⟩:=HMZ.out.at
  have HM1:=Vh hm1
  have HSG:=Vh (Sl.of_bk (n:=c.li) HGZ.out HI.out.inv.lX)
  clear hlt hj hm1
  go_wp2_with (go_at_call 15;refine (Qid HM1.out).mono ?_;rintro e w13 ⟨rfl,rfl⟩)
  refine (show Calls Tryz.prog 16 #[.pointer (some ⟨sy1,0,none⟩)] wr (Qbu wr c.li M.S.X) from Qco HM1.out.sys).mono ?_
  rintro e w14 ⟨g2,cap2,rg2,rfl,hg2,_,_,c14⟩
  have HSA:=Vh (Sl.of_bk (n:=c.li) hg2 HI.out.inv.lX)
  have C14:=Vh c14
  clear hg2 c14
  go_wp2_with fail
  refine (lines_same g2 0 g 0 c.li cap2 cap _ _ HSA.out (HSG.out.keep0 C14.out (fun _ _ _=>Vn)) (by have:=HC.out.li64;omega)).mono ?_
  rintro e w15 ⟨rfl,c15⟩
  have C15:=Vh ((HMZ.out.keep0 (C14.out.trans c15)).chg)
  clear c15
  go_wp2_with fail
  refine (Qb7 _ (HT.out.keep0 C15.out)).mono ?_
  rintro e w16 ⟨rfl,c16⟩
  go_wp2_with fail
  go_ret
  exact ⟨rfl,C15.out.trans c16⟩):p:=h
theorem Tz5 {p:Prop} (h:p:=by
 have g3:(j:Int)<(l.length:Int):=by omega
 have g0:(0:Int)≤(j:Int):=by omega
 have gl2:(l.length:Int)≤1500:=by have:=HL15.out;omega
 obtain ⟨b0,o0,hA⟩:=HL.out.addr (by omega)
 subst hA
 obtain ⟨cA,tA,fA,hA,_,hpart⟩:=(HL.out.keep0 HMZ.out.chg (fun _ _ _=>Vn)).elem (by omega) hlt (YI Ac.len hx)
 obtain ⟨hin,hpt⟩:=hpart 0 3 (by omega)
 have hcl:=(HL.out.keep0 HMZ.out.chg (fun _ _ _=>Vn)).cells
 rw [Nat.add_zero] at hin hpt
 rw [show ((Ac.enc x).drop 0 |>.take 3).toArray=acc x from rfl] at hpt
 obtain ⟨hin1,hpt1⟩:=hpart 0 1 (by omega)
 rw [Nat.add_zero] at hin1 hpt1
 have hk0:cA[o0+j*3]? =some (.int .i64 x.kd):=by
  have h1:=congrArg (fun a:Array Value=>a[0]?) hpt1
  rw [Xi] at h1
  simpa [Ac.enc] using h1
 have oA:=old hA
 have HLT:=Vh hlt
 clear hx hlt hpart hj hcl hpt1 hin1
 by_cases hk:7≤x.kd∧x.kd≤10
 ·obtain ⟨k1,k2⟩:=hk
  go_wp2_with fail
  go_roundw
  case rel=>exact ⟨j+1,Fz,HLT.out,by go_num,HMZ.out,HGZ.out,HGX.out⟩
  case measure=>have:=HLT.out;simp [intOf];omega
 ·have hst:=Qib HI.out HQB.out x.kd x.co x.li (by omega)
  have HST:=Vh hst
  have hdo:=mdoS HMZ.out HI.out Cz10 HT.out x
  rw [hst] at hdo
  have HDO:=Vh hdo
  have tk:(decide (7≤x.kd)&&decide (x.kd≤10))=false:=by
   by_cases h7:7≤x.kd
   ·have:¬x.kd≤10:=fun h=>hk ⟨h7,h⟩
    simp [this]
   ·simp [h7]
  clear hst hdo
  by_cases h7:7≤x.kd
  ·have h10:¬x.kd≤10:=fun h=>hk ⟨h7,h⟩
   clear hk tk
   go_wp2_with (first
    |(go_at_call 12;refine HDO.out.mono ?_;rintro e w11 ⟨v,F11,rfl,⟨A11,c11,rfl,hs11,_⟩,hm11,k11,hF11⟩;have HM11:=Vh hm11;have HG11:=Vh (k11.keep HGZ.out HGX.out);have HX11:=Vh (show g∉F11 from fun hm=>by rcases hF11 g hm with h|h;exact HGX.out h;have:=Z6 HGZ.out;omega);clear hm11 k11 hF11 hs11)
    |(go_at_call 17;refine (Qdm HM11.out HI.out).mono ?_;rintro e w12 ⟨rfl,c12⟩;rw [HQB.out];have HM12:=Vh (HM11.out.keep0 c12);have HG12:=Vh (c12.keep HG11.out Vn);clear c12))
   go_roundw
   case rel=>exact ⟨j+1,F11,HLT.out,by go_num,HM12.out,HG12.out,HX11.out⟩
   case measure=>have:=HLT.out;simp [intOf];omega
  ·clear hk tk
   go_wp2_with (first
    |(go_at_call 12;refine HDO.out.mono ?_;rintro e w11 ⟨v,F11,rfl,⟨A11,c11,rfl,hs11,_⟩,hm11,k11,hF11⟩;have HM11:=Vh hm11;have HG11:=Vh (k11.keep HGZ.out HGX.out);have HX11:=Vh (show g∉F11 from fun hm=>by rcases hF11 g hm with h|h;exact HGX.out h;have:=Z6 HGZ.out;omega);clear hm11 k11 hF11 hs11)
    |(go_at_call 17;refine (Qdm HM11.out HI.out).mono ?_;rintro e w12 ⟨rfl,c12⟩;rw [HQB.out];have HM12:=Vh (HM11.out.keep0 c12);have HG12:=Vh (c12.keep HG11.out Vn);clear c12))
   go_roundw
   case rel=>exact ⟨j+1,F11,HLT.out,by go_num,HM12.out,HG12.out,HX11.out⟩
   case measure=>have:=HLT.out;simp [intOf];omega):p:=h
theorem Tz6 {p:Prop} (h:p:=by
 go_region_held3 (fun w'=>w'.heap[g]? =some (.cells #[.pointer (some ⟨a,0,none⟩)] 200 (0,0))∧w'.heap[w.heap.size]? =some (.cells (msc m) 184 (0,0))) (exact ⟨Chg.keep (l:=[]) (w:=w3) Cz3 rG (by simp),Chg.keep (l:=[]) (w:=w3) Cz3 rM (by simp)⟩)
  (first
   |(go_at_call 163;refine (hf _ (H.out.keep Cz11)).mono ?_;rintro e w4 ⟨rfl,c4⟩;(first |(have cO:Chg [] w3 w4:=Chg.trans (Chg.drew (Chg.refl [] w3)) c4)|(have cO:Chg [] w3 w4:=Chg.trans (Chg.alloc (Chg.drew (Chg.refl [] w3)) _) c4));(first |(have rZ:w4.heap[w3.heap.size]? =some (.cells (slc sltZ) 147 (0,0)):=c4.keep (snew_at w3.drew _) Vn)|(have rZ:True:=trivial))))
 all_goals
  go_wp2_with fail
  go_meet
  case rel=>
   first
    |exact ⟨_,rfl,rfl,by simp,cO.alloc _,cO.size⟩
    |exact ⟨w3.heap.size,rfl,rfl,Qhe rZ,cO.putRow _ _ _ (.inr (Nat.le_refl _)),Nat.le_refl _⟩):p:=h
theorem Tz7 {p:Prop} (h:p:=by
 have c5:Chg [w1.heap.size] w3 (putRow w3 w1.heap.size 0 (msc R.2.m)):=(Chg.refl [w1.heap.size] w3).putRow _ _ _ (.inl (by simp))
 have s1:=C1.out.size
 have o1:=H1.out.oldAll
 have sz:((w1.alloc (.cells (msc msZ) 184)).drew).heap.size=w1.heap.size+1:=by simp
 have wz:W.heap.size≤w1.heap.size:=H1.out.allChg.size
 refine ⟨F3,h3.keepL c5 ?_ (by simpa using wz) ?_,Chg.trans' ((C1.out.mono (by simp)).trans ((((Chg.refl [] w1).alloc _).drew.mono (by simp)).trans c3)) c5 ?_,fun b hb=>?_,?_,c5.keep (T3.keep ha1 HPF1.out) ?_⟩
 ·intro b hb
  simp only [List.mem_singleton] at hb
  subst hb
  intro hm
  rcases hF3 _ hm with h4|h4
  ·have:=o1 _ h4;omega
  ·omega
 ·intro h0 x hx hm
  simp only [List.mem_singleton] at hm
  have hr:=h3.rcs
  have hr1:=H1.out.rcs
  rcases hr1.2 with h2|⟨b,o,cs,t,f,h2,h6,_⟩
  ·have:0<M.rc.length:=h0
   omega
  ·rw [hx] at h2
   cases h2
   have:=Z6 h6
   simp only at hm
   omega
 ·intro b hb
  simp only [List.mem_singleton] at hb
  subst hb
  exact .inr s1
 ·rcases hF3 b hb with h4|h4
  ·exact .inl h4
  ·exact .inr (by omega)
 ·rw [Qc _ _ _ _ _ (by rw [z3,Qe,QH,QH];rfl),if_pos rfl,z3]
  exact Qg _ _ _ _ (by simp)
 ·simp only [List.mem_singleton]
  have:=oa1.lt
  omega):p:=h
theorem Tz8 {p:Prop} (h:p:=by
 have _:=hI
 have _:=hN
 have _:=hn
 have _:=hR
 have _:=hR2
 have _:=hT
 have hg:YY (Qz u)=true:=by unfold decB at hd;rw [Bool.and_eq_true] at hd;exact hd.1
 obtain ⟨_,ga,gb,gc,gm⟩:=Zw hg
 have hpl:=(Vg hx).1
 have hpn:=h.co.ok.np
 have hp:(QO Q u).pc<2147483648:=by show Q.pc<_;omega
 have DH:=Qbs h.co hx
 rw [hd,show decI u=Qz u by unfold decI;rw [hd];rfl] at DH
 have HD:=Vh DH
 have RU:=Qa7 h.co.own
 rw [hru] at RU
 have HRU:=Vh RU
 have HP:=Vh hp
 have H1:=Vh (fun (w1:World) (hc:Chg [pb] w w1) (hC:Cor w1 kb pb qb (QO Q u))=>h.core (hc.mono (by simp)) hC)
 have EF:=Vh (fun (w':World) (h':CS W w' c sy F S kb pb qb (QO Q u))=>(dfence h'.co h'.old hp).mono fun e w' hd=>h'.ofCo hd)
 have h8:(QO Q u).rg.length=8:=h.co.ok.h8
 clear h hI hN hn hR hR2 hT hru hx hd DH RU ga gb gc gm hg hpl hpn hp
 generalize Qz u=i at *
 generalize QO Q u=Q1 at *
 generalize (if YQ Q1 then YM Q1 else Q1)=Q2 at *
 generalize (if YQ Q1 then [evC Q1 7 0 0 0] else [])=l2 at *
 go_enter Tryz.func78,Tryz.ntmps78
 try dsimp only [List.append]
 go_wp2_with (first |(go_at_call 63;refine HRU.out.mono ?_;rintro e w' ⟨rfl,rfl⟩)|(go_at_call 100;refine HD.out.mono ?_;rintro e w1 ⟨rfl,hC1,hc1⟩;have hb1:=hC1.own;have H1:=Vh (H1.out w1 hc1 hC1);have C1:=Vh hc1;clear hC1 hc1))
 have hx2:(w1.alloc (.cells (insc i) 65)).heap[w1.heap.size]? =some (.cells (insc i) 65 (0,0)):=by simp
 have C2:=Vh (show Chg [] w1 (w1.alloc (.cells (insc i) 65)) from (Chg.refl [] w1).alloc _)
 have hb2:=C2.out.keep hb1 (by simp)
 have H2:=Vh (H1.out.keep0 C2.out)
 have HPK:=Vh (show w1.heap.size≠kb∧w1.heap.size∉F from ⟨by have:=H1.out.co.oldk.lt;omega,fun hm=>by have:=H1.out.old _ hm;omega⟩)
 have G2:=Vh (show Chg (kb::pb::qb::F) w (w1.alloc (.cells (insc i) 65)) from Z7 ((C1.out.mono (by simp)).trans (C2.out.mono (by simp))))
 clear hb1 H1 C1 C2 HD HRU
 generalize w1.alloc (.cells (insc i) 65)=w2 at *
 generalize w1.heap.size=p at *
 have o2:=old hb2
 have ox2:=old hx2
 have n1:¬p=kb:=HPK.out.1
 have n2:¬kb=p:=fun e=>HPK.out.1 e.symm
 refine (EF.out _ H2.out).mono ?_
 rintro e w4 ⟨v,F',rfl,hd⟩
 go_wp2_with fail
 go_ret
 exact CSTo.from G2.out (fun k hk=>.inl hk) ⟨v,F',rfl,hd⟩):p:=h
theorem Tz9 {p:Prop} (h:p:=by
 go_wp2_with (first
  |(go_at_call 12;refine HDO.out.mono ?_;rintro e w11 ⟨v,F11,rfl,⟨A11,c11,rfl,hs11,_⟩,hm11,k11,hF11⟩;have HM11:=Vh hm11;have HG11:=Vh (k11.keep HGZ.out HGX.out);have HX11:=Vh (show g∉F11 from fun hm=>by rcases hF11 g hm with h|h;exact HGX.out h;have:=Z6 HGZ.out;omega);clear hm11 k11 hF11 hs11)
  |(go_at_call 17;refine (Qdm HM11.out HI.out).mono ?_;rintro e w12 ⟨rfl,c12⟩;rw [HQB.out];have HM12:=Vh (HM11.out.keep0 c12);have HG12:=Vh (c12.keep HG11.out Vn);clear c12))
 go_roundw
 case rel=>exact ⟨j+1,F11,HLT.out,by go_num,HM12.out,HG12.out,HX11.out⟩
 case measure=>have:=HLT.out;simp [intOf];omega):p:=h
theorem Tz10 {p:Prop} (h:p:=by
 try dsimp only [List.append]
 go_wp2_with fail
 refine Qay (w:=w) (b1:=w.heap.size) (x1:=.cells (ec (x)) 107 (0,0)) (b2:=w.heap.size+1) (x2:=.cells (msc m) 184 (0,0)) (b3:=w.heap.size+2) (x3:=.cells (ec (enZ)) 107 (0,0)) Cz1 (by simp [*]) (by simp [*]) (by simp [*]) fun w1 C1 rE rM rR=>?_
 have oE:=old rE
 have oM:=old rM
 have oR:=old rR
 have o0:=h0.chg C1
 go_region_held3 (fun w'=>w'.heap[w.heap.size]? =some (.cells (ec (x)) 107 (0,0))∧w'.heap[w.heap.size+1]? =some (.cells (msc m) 184 (0,0))) (first |exact ⟨rE,rM⟩|exact ⟨c2.keep rE (by simp),c2.keep rM (by simp)⟩|exact ⟨c2.keep (by simp [*]) (by simp),c2.keep (by simp [*]) (by simp)⟩|simp [*])
  (first
   |(go_at_call 171;refine (YR _ _).mono ?_;rintro e w' ⟨rfl,rfl⟩)
   |(go_at_call 232;refine (Qfv _ _ _ _ _ _ ?_).mono ?_;exact Cz7;rintro e w' ⟨A2,n2,rfl,hs2,hA2,c2⟩;(have hA3:∀a,A2=some a→w1.heap.size≤a.block:=(by simpa using hA2));(first |(have rR2:=c2.keep rR (by simp))|(have rR2:=c2.keep (x:=.cells (ec (x)) 107 (0,0)) (k:=w.heap.size+2) (by simp [rR]) (by simp)))))
 all_goals
  go_wp2_with fail
  refine bodyPost_ret (v:=.tuple #[.agg (ec ((J0 x c m (bitM x.ow) 13).1)),.slice A2 (J0 x c m (bitM x.ow) 13).2.length n2]) ?_ (by rfl) ?_
  ·exact XE (by rfl) _ _ (w.heap.size+2) _ (0,0) (by rfl) Cz8 _ (by rfl)
  refine ⟨A2,n2,rfl,?_,fun a ha=>Nat.le_trans C1.size (hA3 a ha),by (repeat' (first |exact Chg.refl _ _|assumption|exact Chg.refl [] _|refine Chg.drew ?_|refine Chg.drewN ?_ _|refine Chg.alloc ?_ _|refine Chg.putRow ?_ _ _ _ (.inr Cz4)|refine Chg.setCell ?_ _ _ _ (.inr Cz4)|refine Chg.trans ?_ c2))⟩
  first
   |exact hs2
   |exact hs2.chg ((Chg.refl [w.heap.size+2] _).putRow _ _ _ (.inl (by simp))) Cz5
   |exact hs2.chg c3 (by simp)
   |exact (hs2.chg c3 (by simp)).chg ((Chg.refl [w.heap.size+2] _).putRow _ _ _ (.inl (by simp))) Cz5):p:=h
theorem Tz11 {p:Prop} (h:p:=by
 have HST:=Vh hst
 have hdo:=mdoS HMZ.out HI.out Cz10 HT.out x
 rw [hst] at hdo
 have HDO:=Vh hdo
 have tk:(decide (7≤x.kd)&&decide (x.kd≤10))=false:=by
  by_cases h7:7≤x.kd
  ·have:¬x.kd≤10:=fun h=>hk ⟨h7,h⟩
   simp [this]
  ·simp [h7]
 clear hst hdo
 by_cases h7:7≤x.kd
 ·have h10:¬x.kd≤10:=fun h=>hk ⟨h7,h⟩
  clear hk tk
  go_wp2_with (first
   |(go_at_call 12;refine HDO.out.mono ?_;rintro e w11 ⟨v,F11,rfl,⟨A11,c11,rfl,hs11,_⟩,hm11,k11,hF11⟩;have HM11:=Vh hm11;have HG11:=Vh (k11.keep HGZ.out HGX.out);have HX11:=Vh (show g∉F11 from fun hm=>by rcases hF11 g hm with h|h;exact HGX.out h;have:=Z6 HGZ.out;omega);clear hm11 k11 hF11 hs11)
   |(go_at_call 17;refine (Qdm HM11.out HI.out).mono ?_;rintro e w12 ⟨rfl,c12⟩;rw [HQB.out];have HM12:=Vh (HM11.out.keep0 c12);have HG12:=Vh (c12.keep HG11.out Vn);clear c12))
  go_roundw
  case rel=>exact ⟨j+1,F11,HLT.out,by go_num,HM12.out,HG12.out,HX11.out⟩
  case measure=>have:=HLT.out;simp [intOf];omega
 ·clear hk tk
  go_wp2_with (first
   |(go_at_call 12;refine HDO.out.mono ?_;rintro e w11 ⟨v,F11,rfl,⟨A11,c11,rfl,hs11,_⟩,hm11,k11,hF11⟩;have HM11:=Vh hm11;have HG11:=Vh (k11.keep HGZ.out HGX.out);have HX11:=Vh (show g∉F11 from fun hm=>by rcases hF11 g hm with h|h;exact HGX.out h;have:=Z6 HGZ.out;omega);clear hm11 k11 hF11 hs11)
   |(go_at_call 17;refine (Qdm HM11.out HI.out).mono ?_;rintro e w12 ⟨rfl,c12⟩;rw [HQB.out];have HM12:=Vh (HM11.out.keep0 c12);have HG12:=Vh (c12.keep HG11.out Vn);clear c12))
  go_roundw
  case rel=>exact ⟨j+1,F11,HLT.out,by go_num,HM12.out,HG12.out,HX11.out⟩
  case measure=>have:=HLT.out;simp [intOf];omega):p:=h
theorem Tz12 {p:Prop} (h:p:=by
 clear hT hs hf hn hfa hg hgd
 go_enter Tryz.func5,Tryz.ntmps5
 try dsimp only [List.append]
 go_wp2_with (go_at_call 6;refine HFA.out.mono ?_;rintro e w' ⟨rfl,rfl⟩)
 generalize W.alloc (.cells (sup c0 c1 c2 c3 c4 c5 c6 IA i ic PA n pc RA r rc) 28)=w1 at *
 generalize W.heap.size=p1 at *
 have o1:=old r1
 refine (show Calls Tryz.prog 7 #[.agg #[.int .i64 c0,.int .i64 c1,.int .i64 c2,.int .i64 c3,.int .i64 c4,.int .i64 c5,.int .i64 c6]] w1 _ from mgood_t c0 c1 c2 c3 c4 c5 c6 _ HGD.out).mono ?_
 rintro e w2 ⟨rfl,c2'⟩
 have r2:=c2'.keep r1 (by simp)
 have o2:=old r2
 have C2:=Vh (C1.out.trans c2')
 clear c2' r1 o1 C1
 go_wp2_with fail
 refine (Qb7 _ (HT.out.keep0 C2.out)).mono ?_
 rintro e w3 ⟨rfl,c3'⟩
 go_wp2_with fail
 go_ret
 exact ⟨rfl,C2.out.trans c3'⟩):p:=h
theorem Tz13 {p:Prop} (h:p:=by
 go_enter Tryz.func55,Tryz.ntmps55
 go_wp2_with fail
 generalize hw1:w.alloc (.cells (acc a) 44)=w1 at *
 generalize hp1:w.heap.size=p1 at *
 clear hw1 hp1
 have om1:=old hm1
 have oa1:=old ha1
 go_still_tail 6,(by kernel_rfl)
 try refine wpStill_nil ?_
 change wpList _ _ _ _ _ w1.drew
 have C2:=Vh (C1.out.trans ((Chg.refl [] w1).drew))
 have H2:=Vh (H1.out.keep0 ((Chg.refl [] w1).drew))
 have ha2:w1.drew.heap[p1]? =some (.cells (acc a) 44 (0,0)):=ha1
 clear ha1 hm1 H1 C1 om1 oa1
 generalize w1.drew=w2 at *
 go_wp2_with (go_at_call 38;refine (mentry H2.out.sys a.li).mono ?_;rintro e w3 ⟨rfl,k3⟩;have H3:=Vh (H2.out.keep0 k3);have C3:=Vh (C2.out.trans k3);have ha3:=k3.keep ha2 Vn;have hm3:=H3.out.own;have hf3:=ec_field (entA c M.S a.li) w3;have om3:=old hm3;have oa3:=old ha3;clear k3 H2 C2 ha2)
 go_still_tail 6,(by kernel_rfl)
 try refine wpStill_nil ?_
 change wpList _ _ _ _ _ w3.drew
 have C4:=Vh (C3.out.trans ((Chg.refl [] w3).drew))
 have H4:=Vh (H3.out.keep0 ((Chg.refl [] w3).drew))
 have ha4:w3.drew.heap[p1]? =some (.cells (acc a) 44 (0,0)):=ha3
 clear ha3 hm3 H3 C3 om3 oa3 hf3
 generalize w3.drew=w4 at *
 go_wp2_with fail
 refine (udrop H4.out.sys HI.out.inv Cz10 HI.out.roomy HT.out.1 a.li).mono ?_
 rintro e w5 ⟨rfl,hd⟩
 have HD:=Vh (H4.out.sysDo hd)
 clear hd
 go_wp2_with fail
 go_ret
 exact DoTo.from C4.out HD.out):p:=h
theorem Tz14 {p:Prop} (h:p:=by
 try dsimp only [List.append]
 go_wp2_with fail
 refine Xa (w:=w) (b1:=w.heap.size) (x1:=.cells (ec (x)) 107 (0,0)) (b2:=w.heap.size+1) (x2:=.cells (msc m) 184 (0,0)) (b3:=w.heap.size+2) (x3:=.cells (ec (enZ)) 107 (0,0)) Cz0 (by simp [*]) (by simp [*]) (by simp [*]) fun w1 C1 rE rM rR=>?_
 have oE:=old rE
 have oM:=old rM
 have oR:=old rR
 refine (Y6 x _ g1 w1).mono ?_
 rintro e w3 ⟨rfl,c3⟩
 have rE3:=c3.keep rE (by simp)
 have rM3:=c3.keep rM (by simp)
 have rR3:=c3.keep rR (by simp)
 have C3:=C1.trans c3
 have o3:=ht.keep C3 (by simp)
 clear rE rM rR oE oM oR C1 c3
 have oE3:=old rE3
 have oM3:=old rM3
 have oR3:=old rR3
 go_wp2_with ((go_at_call 150;refine (JA _ _ g2 _).mono ?_;rintro e w' ⟨rfl,rfl⟩))
 refine (Qbe m _ g3 w3 o3).mono ?_
 rintro e w4 ⟨rfl,c4⟩
 have rE4:=c4.keep rE3 (by simp)
 have rM4:=c4.keep rM3 (by simp)
 have rR4:=c4.keep rR3 (by simp)
 have C4:=C3.trans c4
 have o4:=ht.old0.chg C4
 clear rE3 rM3 rR3 oE3 oM3 oR3 C3 c4 o3
 have oE4:=old rE4
 have oM4:=old rM4
 have oR4:=old rR4
 go_wp2_with fail
 refine bodyPost_ret (v:=.tuple #[.agg (ec enZ),.slice none 0 0,.int .i64 1]) ?_ (by rfl) ?_
 ·exact XA (by rfl) _ _ (w.heap.size+2) enZ (0,0) (by rfl) (by simp [rR4];try rfl) _ _ (by rfl) (by rfl)
 exact En3.err _ _ _ Cz0):p:=h
theorem Tz15 {p:Prop} (h:p:=by
 have g0:(0:Int)≤(k:Int):=by omega
 have g2:(N:Int)≤8:=by omega
 obtain ⟨b,o,rfl⟩:=HA.out.addr (by omega)
 obtain ⟨cs,t,f,hb,hcell⟩:=(HA.out.chg hc (by simp)).cell hlt
 obtain ⟨y,hy⟩:∃y,(Qbi s)[k]? =some y:=⟨(Qbi s)[k]'Cz12,List.getElem?_eq_getElem _⟩
 rw [List.getElem?_map,hy] at hcell
 simp only [Option.map_some] at hcell
 have rMr:=hc.keep rM2 (by simp)
 have oM:=old rMr
 have ht:xs++[⟨y,m⟩]=(XC s m).take (k+1):=by rw [hxs,List.take_add_one];simp [XC,hy]
 have hlen:xs.length≤8:=by rw [hxs,List.length_take];omega
 obtain ⟨be',cap',A',w3,happ,hv2,hbe2,hc2⟩:=Vec.acc (ty:=216) eltSd (hc.alloc (.cells (sc ⟨y,m⟩) 226)) (hvb.keep ((Chg.refl [] wr).alloc (.cells (sc ⟨y,m⟩) 226)) (by simp)) hbe ((H0.out.chg C2.out)) (sd_slice wr ⟨y,m⟩) (c:=1) rfl (by omega) Cz14
 have HT:=Vh ht
 have HL:=Vh (show xs.length+1=(xs++[(⟨y,m⟩:Sd)]).length by rw [List.length_append];rfl)
 have HV2:=Vh hv2
 have HB2:=Vh hbe2
 have HC2:=Vh hc2
 have hsd:=fun C h h0=>sd_lit y m C h h0
 clear hvb hc hbe hy ht hlen hv2 hbe2 hc2 hxs
 go_wp2_with fail
 go_roundw
 case rel=>exact ⟨k+1,be',cap',A',xs++[⟨y,m⟩],by omega,by go_num,HT.out,by rw [←HL.out],HC2.out,HV2.out,HB2.out⟩
 case measure=>simp [intOf];omega):p:=h
theorem Tz16 {p:Prop} (h:p:=by
 refine ⟨A2,n2,rfl,?_,fun a ha=>Nat.le_trans C1.size (hA3 a ha),by (repeat' (first |exact Chg.refl _ _|assumption|exact Chg.refl [] _|refine Chg.drew ?_|refine Chg.drewN ?_ _|refine Chg.alloc ?_ _|refine Chg.putRow ?_ _ _ _ (.inr Cz4)|refine Chg.setCell ?_ _ _ _ (.inr Cz4)|refine Chg.trans ?_ c2|refine Chg.trans ?_ c3))⟩
 first
  |exact hs2
  |exact hs2.chg ((Chg.refl [w.heap.size+2] _).putRow _ _ _ (.inl (by simp))) Cz5
  |exact hs2.chg c3 (by simp)
  |exact (hs2.chg c3 (by simp)).chg ((Chg.refl [w.heap.size+2] _).putRow _ _ _ (.inl (by simp))) Cz5):p:=h
theorem Tz17 {p:Prop} (h:p:=by
 exact ⟨rfl,by (repeat' (first |exact Chg.refl _ _|assumption|exact Chg.refl [] _|refine Chg.drew ?_|refine Chg.drewN ?_ _|refine Chg.alloc ?_ _|refine Chg.putRow ?_ _ _ _ (.inr Cz4)|refine Chg.setCell ?_ _ _ _ (.inr Cz4)))⟩):p:=h
theorem Tz18 {p:Prop} (h:p:=by
 go_enter Tryz.func7,Tryz.ntmps7
 dsimp only [List.append]
 go_wp2
 go_ret
 exact ⟨rfl,rfl⟩):p:=h
theorem Tz19 {p:Prop} (h:p:=by
 try dsimp only [List.append]
 go_wp2_with fail
 refine Xa (w:=w) (b1:=w.heap.size) (x1:=.cells (ec (x)) 107 (0,0)) (b2:=w.heap.size+1) (x2:=.cells (msc m) 184 (0,0)) (b3:=w.heap.size+2) (x3:=.cells (ec (enZ)) 107 (0,0)) Cz0 (by simp [*]) (by simp [*]) (by simp [*]) fun w1 C1 rE rM rR=>?_
 have oE:=old rE
 have oM:=old rM
 have oR:=old rR
 refine (Y6 x _ g1 w1).mono ?_
 rintro e w3 ⟨rfl,c3⟩
 have rE3:=c3.keep rE (by simp)
 have rM3:=c3.keep rM (by simp)
 have rR3:=c3.keep rR (by simp)
 have C3:=C1.trans c3
 have o3:=ht.keep C3 (by simp)
 clear rE rM rR oE oM oR C1 c3
 have oE3:=old rE3
 have oM3:=old rM3
 have oR3:=old rR3
 go_wp2_with (go_at_call 150;refine (JA _ _ g2 _).mono ?_;rintro e w' ⟨rfl,rfl⟩)
 refine bodyPost_ret (v:=.tuple #[.agg (ec enZ),.slice none 0 0,.int .i64 1]) ?_ (by rfl) ?_
 ·exact XA (by rfl) _ _ (w.heap.size+2) enZ (0,0) (by rfl) (by simp [rR3];try rfl) _ _ (by rfl) (by rfl)
 exact En3.err _ _ _ Cz0):p:=h
theorem Tz20 {p:Prop} (h:p:=by
 obtain ⟨he,di,l,ow,sh,bu,by_,wa,h⟩:=e
 obtain ⟨a0,a1,a2,a3,a4,a5,a6,a7,rfl⟩:=Qe6 h
 rfl):p:=h
theorem Tz21 {p:Prop} (h:p:=by
 refine (show Calls Tryz.prog 16 #[.pointer (some ⟨sy0,0,none⟩)] w8 (Qbu w8 c.li M.S.X) from Qco (HMM.out.keep0 C8.out).sys).mono ?_
 rintro e w10 ⟨g,cap,rg,rfl,hg,hge,hcap,c10⟩
 have C10:=Vh (C8.out.trans c10)
 have HM10:=Vh (HM.out.keep0 C10.out)
 have HG0:=Vh hg
 have HGN:=Vh (show g∉Fr from fun hm=>by have:=HM.out.old g hm;have:=C8.out.size;omega)
 have HGO:=Vh (show g<w10.heap.size from Z6 hg)
 have HCR:=Vh (HCH.out.trans C10.out)
 clear c10 hg hge hcap hri ori HMM
 go_wp2_with fail
 go_loopw [9] (fun i wr=>∃(j:Nat) (Fz:List Nat),j≤l.length∧i=.int .i64 j∧MaS W wr c mp RA7 rc7 Fz M∧wr.heap[g]? =some (.cells (bk M.S.X rg) 59 (0,0))∧g∉Fz) (fun i _=>l.length-(intOf i).toNat)
 case atStart=>exact ⟨0,Fr,Nat.zero_le _,rfl,HM10.out,HG0.out,HGN.out⟩
 case round=>
  obtain ⟨j,Fz,hj,rfl,hmz,hgz,hgn⟩:=hrel
  have HMZ:=Vh hmz
  have HGZ:=Vh hgz
  exact Tz4):p:=h
theorem Tz22 {p:Prop} (h:p:=by
 clear hk HOP
 go_enter Tryz.func107,Tryz.ntmps107
 try dsimp only [List.append]
 go_wp2_with fail
 refine X8 w1.heap.size (by kernel_rfl) (by kernel_rfl) ?_
 repeat (go_big_quiet_step (first |(go_at_call 138;exact Y3 (GS.out _))))
 refine wpQuiet_nil ?_
 rintro _ ⟨y,rfl⟩
 have CY:=Vh (Below.chg y.below (Nat.le_refl _))
 have HY:=Vh (H1.out.keep0 CY.out)
 have r1:=R1 y
 have r2:=R2 y
 go_wp2_with (first |(go_at_call 37;refine (J8 HY.out.ms).mono ?_;rintro e w3 ⟨rfl,c3⟩;have r13:=c3.keep r1 (by simp);have r23:=c3.keep r2 (by simp);have H3:=Vh (HY.out.keep0 c3);have C3:=Vh c3;clear c3 r1 r2)|(go_at_call 139;refine (HAT.out _).mono ?_;rintro e w' ⟨rfl,rfl⟩))
 refine (EC.out _ H3.out li wo).mono ?_
 rintro e w4 ⟨v,F',rfl,hd⟩
 go_wp2_with fail
 go_ret
 exact CSTo.from (((HC1.out.trans CY.out).trans C3.out).mono (by simp)) (fun k hk=>.inl hk) ⟨v,F',rfl,hd⟩):p:=h
theorem Tz23 {p:Prop} (h:p:=by
 try dsimp only [List.append]
 go_wp2_with fail
 refine Xa (w:=w) (b1:=w.heap.size) (x1:=.cells (ec (x)) 107 (0,0)) (b2:=w.heap.size+1) (x2:=.cells (msc m) 184 (0,0)) (b3:=w.heap.size+2) (x3:=.cells (ec (enZ)) 107 (0,0)) Cz0 (by simp [*]) (by simp [*]) (by simp [*]) fun w1 C1 rE rM rR=>?_
 have oE:=old rE
 have oM:=old rM
 have oR:=old rR
 refine (Y6 x _ g1 w1).mono ?_
 rintro e w3 ⟨rfl,c3⟩
 have rE3:=c3.keep rE (by simp)
 have rM3:=c3.keep rM (by simp)
 have rR3:=c3.keep rR (by simp)
 have C3:=C1.trans c3
 have o3:=ht.keep C3 (by simp)
 clear rE rM rR oE oM oR C1 c3
 have oE3:=old rE3
 have oM3:=old rM3
 have oR3:=old rR3
 go_wp2_with fail
 refine bodyPost_ret (v:=.tuple #[.agg (ec enZ),.slice none 0 0,.int .i64 1]) ?_ (by rfl) ?_
 ·exact XA (by rfl) _ _ (w.heap.size+2) enZ (0,0) (by rfl) (by simp [rR3];try rfl) _ _ (by rfl) (by rfl)
 exact En3.err _ _ _ Cz0):p:=h
theorem Tz24 {p:Prop} (h:p:=by
 refine ⟨A2,n2,rfl,?_,fun a ha=>Nat.le_trans C1.size (hA3 a ha),by (repeat' (first |with_reducible exact Chg.refl _ _|with_reducible assumption|with_reducible refine Chg.drew ?_|with_reducible refine Chg.drewN ?_ _|with_reducible refine Chg.alloc ?_ _|with_reducible refine Chg.putRow ?_ _ _ _ (.inr ?_)|with_reducible refine Chg.setCell ?_ _ _ _ (.inr ?_)|with_reducible refine Chg.trans ?_ c2|with_reducible refine Chg.trans (b:=World.drew _) ?_ c2|with_reducible refine Chg.trans ?_ c3|with_reducible refine Chg.trans (b:=World.drew _) ?_ c3|(show _≤_;first |exact Nat.le_refl _|omega|(simp;done))))⟩
 first
  |exact hs2
  |exact hs2.chg ((Chg.refl [w.heap.size+1] _).putRow _ _ _ (.inl (by simp))) Cz5
  |exact hs2.chg c3 (by simp)
  |exact (hs2.chg c3 (by simp)).chg ((Chg.refl [w.heap.size+1] _).putRow _ _ _ (.inl (by simp))) Cz5):p:=h
theorem Tz25 {p:Prop} (h:p:=by
 have c5:Chg [] w3 (w3.alloc (.cells (msc R.2.m) 184)):=(Chg.refl [] w3).alloc _
 have s1:=C1.out.size
 refine ⟨F3,h3.keep0 c5,(C1.out.mono (by simp)).trans ((((Chg.refl [] w1).drew.mono (by simp)).trans c3).trans (c5.mono (by simp))),fun b hb=>?_,(MapKept.heap_alloc w3 _).1,c5.keep (T3.keep ha1 HPF1.out) (by simp)⟩
 rcases hF3 b hb with h4|h4
 ·exact .inl h4
 ·exact .inr (Nat.le_trans s1 h4)):p:=h
theorem Tz26 {p:Prop} (h:p:=by
 go_ret
 exact ⟨by simp,by (repeat' (first |with_reducible exact Chg.refl _ _|with_reducible assumption|with_reducible refine Chg.drew ?_|with_reducible refine Chg.drewN ?_ _|with_reducible refine Chg.alloc ?_ _|with_reducible refine Chg.putRow ?_ _ _ _ (.inr ?_)|with_reducible refine Chg.setCell ?_ _ _ _ (.inr ?_)|(show _≤_;first |exact Nat.le_refl _|omega|(simp;done))))⟩):p:=h
theorem Tz27 {p:Prop} (h:p:=by
 try dsimp only [List.append]
 go_wp2_with (first |(go_at_call 93;refine (Qdl k _ HH.out HK.out).mono ?_;rintro e w' ⟨rfl,rfl⟩))
 go_ret
 exact ⟨rfl,rfl⟩):p:=h
theorem Tz28 {p:Prop} (h:p:=by
 try dsimp only [List.append]
 go_wp2_with (first |(go_at_call 93;refine (Y2 i _ HH.out HI.out).mono ?_;rintro e w' ⟨rfl,rfl⟩)|(go_at_call 69;refine (Z8 li false HL.out _ HH.out).mono ?_;rintro e w' ⟨rfl,rfl⟩))
 go_ret
 exact ⟨rfl,rfl⟩):p:=h
theorem Tz29 {p:Prop} (h:p:=by
 have jg:=i1 p.g (by simp)
 have ja:=i1 p.a (by simp)
 have jb:=i1 p.b (by simp)
 have ju:p.ub≠z.po→p.ub≠be':=fun hb=>i1 p.ub (by simp [hb])
 have jn:p.nb≠z.po→p.nb≠be':=fun hb=>i1 p.nb (by simp [hb])
 have jd:p.db≠z.po→p.db≠be':=fun hb=>i1 p.db (by simp [hb])
 rw [Qbv]
 dsimp only
 refine ⟨⟨d1,d2,d3⟩,?_,?_,?_,?_,?_,?_⟩<;>omega):p:=h
theorem Tz30 {p:Prop} (h:p:=by
 have HG6:=Vh c6
 have hb6:=HC6.out.own
 have hs6:=c6.keep hs5 (by simpa using HN.out.2.2)
 clear c6 b6 hb4 hs4 hb5 hs5 hw5
 go_wp2_with fail
 refine (Qcz hb6 13 x.li 0 0).mono ?_
 rintro e w7 ⟨rfl,c7⟩
 have HC7:=Vh c7
 clear c7
 go_wp2_with fail
 go_ret
 have c8:Chg [] w6 (w7.alloc (.cells (evc ⟨13,Q.id,x.li,0,0⟩) 48)):=HC7.out.alloc _
 have hk:=H4.out.co.oldk.lt
 have hsz:=HC7.out.size
 have hg:=HG6.out.size
 have hg5:=HG5.out.size
 refine CSTo.from HG4.out HK4.out (H4.out.ofCo (CoTo.from ((HG5.out.mono (by simp)).trans (HG6.out.mono (by simp))) ⟨_,rfl,EvV.one (by simp;rfl) (by omega) hsz (fun hm=>by have:=H4.out.old _ hm;omega),HC6.out.keep0 c8,c8.mono (by simp)⟩))):p:=h
theorem Tz31 {p:Prop} (h:p:=by
 go_wp2_with fail
 go_still_tail 5,(by kernel_rfl)
 rw [HJ.out]
 still_call (Qfl (H5.out.keep0 ((Chg.refl [] w5).drew)) HP.out)
 repeat still_step
 try refine wpStill_nil ?_
 change wpList _ _ _ _ _ w5.drew
 have C6:=Vh (C5.out.trans ((Chg.refl _ w5).drew))
 have H6:=Vh (H5.out.keep0 ((Chg.refl [] w5).drew))
 have S6:=Vh S5.out
 clear H5 C5 hq ha5 oq5 oa5 hm5 om5
 generalize w5.drew=w6 at *
 go_wp2_with fail
 have hp:=HP.out
 have hQ:=HQ.out
 have cs6:=H6.out.cs hp hQ
 refine (dhear cs6.co cs6.old R.2.m).mono ?_
 rintro e w7 hd
 have HD:=Vh (H6.out.told hp hQ (cs6.ofCo hd))
 obtain ⟨v,rfl,_⟩:=hd
 clear cs6
 go_wp2_with fail
 go_ret
 rw [HJ.out]
 exact DoTo.after C6.out S6.out HD.out):p:=h
theorem Tz32 {p:Prop} (h:p:=by
 go_enter Tryz.func119,Tryz.ntmps119
 try dsimp only [List.append]
 go_wp2_with fail
 refine Qbb (w:=w) (b1:=w.heap.size) (x1:=.cells (msc m) 184 (0,0)) Cz0 (by simp [*]) fun w1 C1 rM=>?_
 have oM:=old rM
 refine (Qcw m _ g3 w1 (hT.1.keep (H.out.1.1.trans C1) (by simp))).mono ?_
 rintro e w3 ⟨rfl,c3⟩
 replace rM:=c3.keep rM Vn
 have C3:=C1.trans c3
 replace H:=Vh (H.out.keep C3)
 replace CW:=Vh (YS (a:=a) (b:=b) C3)
 have nM:=H.out.new2 (k:=w.heap.size)
 clear C1 c3 C3 oM nM
 have rG:=H.out.2.1
 have oM:=old rM
 go_wp2_with (go_at_call 162;refine (Qcv _ _ g4 _).mono ?_;rintro e w' ⟨rfl,rfl⟩)
 go_ret2
 exact AgRet.nil (f:=fun v=>.tuple #[v,.int .i64 1]) H.out CW.out):p:=h
theorem Tz33 {p:Prop} (h:p:=by
 go_wp2_with (go_at_call 77;refine (J1 _ _ _ _).mono ?_;rintro e w' ⟨rfl,rfl⟩)
 go_ret
 exact ⟨rfl,(Chg.refl _ _).alloc _⟩):p:=h
theorem Tz34 {p:Prop} (h:p:=by
 go_wp2_with fail
 go_ret
 exact ⟨rfl,rfl⟩):p:=h
theorem Tz35 {p:Prop} (h:p:=by
 go_enter Tryz.func87,Tryz.ntmps87
 try dsimp only [List.append]
 go_wp2_with (first |(go_at_call 69;refine (Z8 (i:Int) true HB.out _ HH.out).mono ?_;rintro e w' ⟨rfl,rfl⟩))
 go_ret
 exact Tz2):p:=h
theorem Tz36 {p:Prop} (h:p:=by
 go_enter Tryz.func35,Tryz.ntmps35
 go_wp2_with (go_at_call 66;refine HQ.out.mono ?_;rintro e w2 ⟨A1,n1,A2,n2,A3,n3,rfl,_,_,_,c2⟩;have C2:=Vh c2;clear c2)
 go_ret
 exact ⟨rfl,C2.out⟩):p:=h
theorem Tz37 {p:Prop} (h:p:=by
 go_wp2_with fail
 go_still_tail 5,(by kernel_rfl)
 still_call (Qfk (H5.out.keep0 ((Chg.refl [] w5).drew)) HNO.out)
 repeat still_step
 try refine wpStill_nil ?_
 change wpList _ _ _ _ _ w5.drew
 have C6:=Vh (C5.out.trans ((Chg.refl _ w5).drew))
 have H6:=Vh (H5.out.keep0 ((Chg.refl [] w5).drew))
 have S6:=Vh S5.out
 clear H5 C5 hq ha5 oq5 oa5 hm5 om5
 generalize w5.drew=w6 at *
 go_wp2_with fail
 refine (chear_nil R.2.m w6).mono ?_
 rintro e w7 ⟨rfl,k7⟩
 go_wp2_with fail
 go_ret
 exact DoTo.after C6.out S6.out (H6.out.stayDo k7)):p:=h
theorem Tz38 {p:Prop} (h:p:=by
 try dsimp only [List.append]
 go_wp2_with (first |(go_at_call 93;refine (Y2 i _ HH.out HI.out).mono ?_;rintro e w' ⟨rfl,rfl⟩)|(go_at_call 69;refine (Z8 li true HL.out _ HH.out).mono ?_;rintro e w' ⟨rfl,rfl⟩))
 refine HG.out.mono ?_
 rintro e w2 ⟨A,n,rfl,h2,h3,h4⟩
 have HS:=Vh (HH.out.asks (nc:=n) HT.out HY.out HQ.out H1.out HM.out h2 h3 h4)
 clear h2 h3 h4 rS rP c0
 go_wp2_with fail
 refine HS.out.mono ?_
 rintro e w3 ⟨rfl,p',_,M⟩
 have HN:=Vh M
 clear M
 go_wp2_with fail
 go_ret
 exact ⟨rfl,p',HN.out⟩):p:=h
end Go.Proofs.YtlidfghgjjffaaaGreatDoor
