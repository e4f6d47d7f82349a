/- Texts of the walk, one behind the other: Ryo Ryp Ryq. No condition. -/
import Derived.Test.YtadeoflkppiflaaGreatDoorSaa
import Derived.Test.YtadeoflkppiflaaGreatDoorSak
import Derived.Test.YtadeoflkppiflaaGreatDoorSao
import Derived.Test.YtadeoflkppiflaaGreatDoorSav
import Derived.BigQuiet
import Derived.Deep.Cut
import Derived.Deep.CutBlock
import Derived.Deep.CutRange
import Derived.Deep.DeepCutAuto
import Derived.Deep.QuietTactic
import Derived.Deep.RegionHeld3
import Derived.Deep.RegionLaw
import Derived.Deep.RegionWith
namespace Go.Proofs.YtadeoflkppiflaaGreatDoor
open Go.RowKit
set_option linter.unusedVariables false
set_option maxHeartbeats 1000000
set_option maxRecDepth 100000
attribute [local go_sem ↓] QA QQ QH Q8 QS QC Za QN Zs Zh Qm Ql heap_alloc Qo heap_setCell Qb ZF Z4 Z5 Z3 Zc ZB Zk ZI Zv ZM ZK ZN ZL
attribute [local go_sem] Qc Qa Qd Qj Qf Qe Qh Qi Qw ZE QZ Zq QO QG Q6 Q0 Q5 Zi Q9 QM QB QI Zj Q7 Qz QP Qt Qk Qs Qr Qq Qp Qg Zb Ze lit8 QF ZG Zr Zt ZC Zd Zy ZH Zz Qv ZA Zl Zm QE QD QR ZO
attribute [local simp ↓] Qm Ql heap_alloc Qo heap_setCell Qb
attribute [local simp] Qc Qa Qd Qj Qf Qe Qh Qi Qw QB Qk Qs Qr Qq Qp Qg QF Qv QE QD QR QI
attribute [local go_sem ↓] XP XQ XO XN XS XR XM XZ
attribute [local go_sem] Xi XV Xh ZR ZT QL Xp ZZ X3 Zw QW QV QU QY QX QT QK QJ Zg Zf Xm ZW
attribute [local simp] QL Zf QW QV QU QY QX QT QK QJ Zg
attribute [local go_sem ↓] Xo ZV Xn ZU Z0
attribute [local go_sem] Xk Xj ZY Xl Qx Qy Z6
attribute [local simp] Z0 Qx Qy QI Zw
attribute [local go_sem ↓] Xg Qac Jh Jj Jf Ji Jg rsc_0 rsc_1 rsc_3 rsc_4 rsc_7 rsc_8 rsc_9 rsc_10 rsc_s8 rsc_s9 Qet
attribute [local go_sem] Qdv Qdo Qa5 Qem Qb2
attribute [local go_sem ↓] Qea cg_li cg_vo cg_qu
attribute [local simp] Xg
section
theorem app_one {w:World} {sy be k cap:Nat} {A:Option Addr} {α:Type} {sz by9:Nat} {T e ty:TypeId} {z9:Value} {enc:α→List Value} {xs:List α} (E:Elt Tryz.prog T e sz by9 z9 enc) (hv:Vec sz e enc w sy be A cap xs) (hq:Old w sy) (a:α) (hk:xs.length=k) (hB:(k+1)*by9≤140737488355328) (h63:k+1≤maxLen) {b5:Nat} (hb5:w.heap[b5]? =some (.cells (enc a).toArray e (0,0))):
 ∃(be' cap':Nat) (A':Option Addr) (w':World),appR Tryz.prog T ty #[.slice A k cap,.slice (some ⟨b5,0,none⟩) 1 1] w=.ok (.slice A' (k+1) cap') w'∧Vec sz e enc w' sy be' A' cap' (xs++[a])∧(be'=be∨w.heap.size≤be')∧Chg [be] w w'∧w'.heap[sy]? =w.heap[sy]?:=by
 subst hk
 exact hv.app E hq (ys:=[a]) (m:=1) ⟨by rw [JV,E.len];simp,.inr ⟨b5,0,_,e,(0,0),rfl,hb5,by rw [JV];simp [E.len,List.take_of_length_le]⟩⟩ rfl hB h63
def Clr0 (w:World) (c:Cg) (sy q:Nat) (wx:World):Prop:=∃po,wx.heap[sy]? =some (.cells (rsc c q (.slice none 0 0) (.slice none 0 0) (.slice (some ⟨po,0,none⟩) c.co c.co)) 107 (0,0))∧wx.heap[po]? =some (.cells (sq rqz (List.replicate c.co ()) []) 121 (0,0))∧w.heap.size≤po∧po<wx.heap.size∧Chg [sy] w wx
theorem fold_ecA (a0 a1 a2 a3 a4 a5 a6 a7 a8 a9 a10 a11 a12 a13 a14:Value) (e:En):Array.foldl (fun cs y=>cs.setIfInBounds y.snd y.fst) #[a0,a1,a2,a3,a4,a5,a6,a7,a8,a9,a10,a11,a12,a13,a14] (ec e).zipIdx 0 15=ec e:=Qcy _ _ 15 (QL e) rfl
attribute [local go_sem] fold_ecA
attribute [local simp] fold_ecA
theorem rpl_snoc {α:Type} (k:Nat) (a:α):List.replicate k a++[a]=List.replicate (k+1) a:=(List.replicate_succ' ..).symm
set_option maxHeartbeats 4000000 in
theorem Qgf (W w:World) (c:Cg) (hc:c.Ok) (sy q:Nat) (v8 v9 v10:Value) (hW:Chg [] W w) (hsW:W.heap.size≤sy) (hs:w.heap[sy]? =some (.cells (rsc c q v8 v9 v10) 107 (0,0))):Calls Tryz.prog 48 #[.pointer (some ⟨sy,0,none⟩)] w fun e w'=>e=.returned (.tuple #[])∧RFresh W w c sy q w':=by
 have hmk:=fun W=>Qgc W c.co (by have:=hc.co8;omega)
 have HC:=Vh hc
 have HW:=Vh hW
 have HSW:=Vh hsW
 have os:=old hs
 have nsz:sy≠w.heap.size:=by have:=os.lt;omega
 have nsz':w.heap.size≠sy:=Ne.symm nsz
 have HSY:=Vh os.lt
 have gco:(c.co:Int)≤8:=by have:=hc.co8;omega
 clear hc hW hsW
 go_enter Tryz.func48,Tryz.ntmps48
 try dsimp only [List.append]
 go_upto_region 0 with fail
 go_cut [] (fun wx=>Clr0 w c sy q wx)
 case first=>
  go_region
  all_goals
   go_wp2_with fail
   go_meet
   refine ⟨w.heap.size,?_,?_,Nat.le_refl _,?_,?_⟩
   ·simp [hs,nsz,rsc_s8,rsc_s9,Qet]
   ·simp [nsz']
   ·simp
   ·(repeat' (first |with_reducible exact Chg.refl _ _|with_reducible assumption|with_reducible refine Chg.drew ?_|with_reducible refine Chg.alloc ?_ _|with_reducible refine Chg.setCell ?_ _ _ _ (.inl (by simp))|with_reducible refine Chg.setCell ?_ _ _ _ (.inr ?_)|(show _≤_;first |exact Nat.le_refl _|omega|(simp;done))))
 case rest=>
  rename World=>w1
  obtain ⟨po,rS,rP,hpo,hpl,h1⟩:=hcut
  have HPO:=Vh hpo
  have C1:=Vh h1
  have npo:sy≠po:=by have:=HSY.out;omega
  clear hpo h1 hs os nsz nsz' hmk hpl
  go_wp2_with fail
  go_loopw [2] (fun ix wr=>∃(k be cap:Nat) (A:Option Addr),k≤c.li∧ix=.int .i64 k∧wr.heap[sy]? =some (.cells (rsc c q (.slice A k cap) (.slice none 0 0) (.slice (some ⟨po,0,none⟩) c.co c.co)) 107 (0,0))∧Vec 15 117 En.enc wr sy be A cap (List.replicate k enE)∧wr.heap[po]? =some (.cells (sq rqz (List.replicate c.co ()) []) 121 (0,0))∧(be=sy∨po<be)∧Chg [sy] w wr) (fun ix _=>c.li-(intOf ix).toNat)
  case atStart=>exact ⟨0,sy,0,none,by omega,rfl,rS,Vec.nil _ _ _ _ _,rP,.inl rfl,C1.out⟩
  case round=>
   clear rS rP
   obtain ⟨k,be,cap,A,hk,rfl,rS,hv,rP,hbe,hch⟩:=hrel
   have HV:=Vh hv
   have HBE:=Vh hbe
   have HCH:=Vh hch
   clear hv hbe hch
   by_cases hlk:k<c.li
   ·have g1:(k:Int)<(c.li:Int):=by omega
    have g0:(0:Int)≤(k:Int):=by omega
    have h64:=HC.out.li64
    have HAP:=Vh (show ∀w5,Chg [] wr.drew w5→∃(be' cap':Nat) (A':Option Addr) (w6:World),appR Tryz.prog 103 103 #[.slice A k cap,.slice (some ⟨w5.heap.size,0,none⟩) 1 1] (w5.alloc (.cells (ec enE) 117))=.ok (.slice A' (k+1) cap') w6∧Vec 15 117 En.enc w6 sy be' A' cap' (List.replicate (k+1) enE)∧(be'=be∨wr.heap.size≤be')∧w6.heap[sy]? =some (.cells (rsc c q (.slice A k cap) (.slice none 0 0) (.slice (some ⟨po,0,none⟩) c.co c.co)) 107 (0,0))∧w6.heap[po]? =some (.cells (sq rqz (List.replicate c.co ()) []) 121 (0,0))∧Chg [sy] w w6 by
     intro w5 c5
     have cc:Chg [] wr (w5.alloc (.cells (ec enE) 117)):=((Chg.refl [] wr).drew.trans c5).alloc _
     have hsy:=cc.keep rS Vn
     obtain ⟨be',cap',A',w6,h1,h2,h3,h4,h5⟩:=app_one (ty:=103) (k:=k) eltEr (HV.out.keep cc Vn) (old hsy) enE (by simp) (by omega) Cz29 (b5:=w5.heap.size) (by simp [ec])
     rw [rpl_snoc] at h2
     have hpb:po≠be:=by have:=HBE.out;omega
     refine ⟨be',cap',A',w6,h1,h2,?_,h5.trans hsy,h4.keep (cc.keep rP Vn) (by simpa using hpb),(HCH.out.trans (cc.mono (by simp))).trans' h4 ?_⟩
     ·rcases h3 with h3|h3
      ·exact .inl h3
      ·exact .inr (Nat.le_trans cc.size h3)
     ·intro x hx
      rw [List.mem_singleton] at hx
      rcases HBE.out with h6|h6
      ·exact .inl (by simp [hx,h6])
      ·exact .inr (by have:=HPO.out;omega))
    have KPH:=Vh (show ∀w',Chg [] wr w'→w'.heap[sy]? =some (.cells (rsc c q (.slice A k cap) (.slice none 0 0) (.slice (some ⟨po,0,none⟩) c.co c.co)) 107 (0,0)) from fun w' h=>h.keep rS Vn)
    have oS:=old rS
    have HSZ:=Vh (show po<wr.heap.size from ZS rP)
    clear rP
    go_wp2_with fail
    go_region_law
     (first |(go_simp;go_at_call 101;refine (Qew _).mono ?_;rintro e w5 ⟨rfl,cw5⟩;have hs5:=KPH.out _ (Chg.trans ((Chg.refl [] wr).drew) cw5);have o5:=old hs5;obtain ⟨be',cap',A',w6,happ,hv6,hb6,hs6,hp6,hc6⟩:=HAP.out _ cw5))
    all_goals
     have c7:Chg [sy] w6 (w6.setCell ⟨sy,8,none⟩ (.slice A' (k+1) cap')):=(Chg.refl [sy] w6).setCell sy 8 _ (.inl (by simp))
     have s7:(w6.setCell ⟨sy,8,none⟩ (.slice A' (k+1) cap')).heap[sy]? =some (.cells (rsc c q (.slice A' (k+1) cap') (.slice none 0 0) (.slice (some ⟨po,0,none⟩) c.co c.co)) 107 (0,0)):=by rw [heap_setCell,if_pos rfl,hs6,Qh];rfl
     have P7:=Vh (c7.keep hp6 (by simpa using Ne.symm npo))
     have NB6:=Vh (hv6.there (by simp)).1
     have V7:=Vh (hv6.keep c7 (by simpa using NB6.out))
     have S7:=Vh s7
     have C7:=Vh (hc6.trans c7)
     have B7:=Vh (show be'=sy∨po<be' by have:=HBE.out;have:=HSZ.out;omega)
     clear c7 s7 hp6 hv6 hc6 hb6 hs6 happ cw5 rS oS
     generalize w6.setCell ⟨sy,8,none⟩ (.slice A' (k+1) cap')=w7 at *
     go_wp2_with fail
     go_roundw
     case rel=>exact ⟨k+1,be',cap',A',by omega,by go_num,S7.out,V7.out,P7.out,B7.out,C7.out⟩
     case measure=>simp [intOf];omega
   ·obtain rfl:k=c.li:=by omega
    obtain ⟨nb,rfl,r,rE,_⟩:=HV.out.there (by have:=HC.out.li2;simp;omega)
    have hle:=HV.out.le
    simp only [List.length_replicate] at hle
    have HCAP:=Vh hle
    have HNB:=Vh (show po<be by have:=HBE.out;omega)
    have nbs:sy≠be:=Ne.symm nb
    clear HV HBE hle nb
    go_wp2_with fail
    go_loopw [3] (fun ix wy=>∃(gs:List Trip) (ab ac:Nat) (A:Option Addr),gs.length≤c.co∧ix=.int .i64 gs.length∧wy.heap[sy]? =some (.cells (rsc c q (.slice (some ⟨be,0,none⟩) c.li cap) (.slice A gs.length ac) (.slice (some ⟨po,0,none⟩) c.co c.co)) 107 (0,0))∧Vec 1 127 tenc wy sy ab A ac gs∧wy.heap[po]? =some (.cells (sq rqz (List.replicate c.co ()) []) 121 (0,0))∧wy.heap[be]? =some (.cells (sq En.enc (List.replicate c.li enE) r) 117 (0,0))∧(ab=sy∨be<ab)∧
     (∀y∈gs,RAg wy y.1 y.2.1 y.2.2 c.se c.wa (st0 c))∧(Qb8 gs).Nodup∧(∀x∈Qb8 gs,be<x∧x<wy.heap.size∧x≠ab)∧Chg [sy] w wy) (fun ix _=>c.co-(intOf ix).toNat)
    case atStart=>exact ⟨[],sy,0,none,by simp,rfl,rS,Vec.nil _ _ _ _ _,rP,rE,.inl rfl,by simp,by simp [Qb8],by simp [Qb8],HCH.out⟩
    case round=>
     clear rS rP rE HCH
     obtain ⟨gs,ab,ac,A,hg,rfl,rS,hv,rP,rE,hab,hag,hnd,hlt,hch⟩:=hrel
     have HV:=Vh hv
     have HAB:=Vh hab
     have HAG:=Vh hag
     have HND:=Vh hnd
     have HLT:=Vh hlt
     have HCH:=Vh hch
     clear hv hab hag hnd hlt hch
     obtain ⟨k,hk⟩:∃k,gs.length=k:=⟨_,rfl⟩
     have HKK:=Vh hk
     rw [hk] at hg rS ⊢
     clear hk
     by_cases hlk:k<c.co
     ·have g1:(k:Int)<(c.co:Int):=by omega
      have g0:(0:Int)≤(k:Int):=by omega
      have oS:=old rS
      have HLK:=Vh hlk
      have HOAB:=Vh (HV.out.old oS).lt
      have HGB:=Vh (show po<wr.heap.size∧be<wr.heap.size from ⟨ZS rP,ZS rE⟩)
      have HN:=Vh (show ∀w,Calls Tryz.prog 102 #[.int .i64 c.se,.int .i64 c.wa] w fun e w'=>∃g a b,e=.returned (.tuple #[.pointer (some ⟨g,0,none⟩),.int .i64 0])∧RAg w' g a b c.se c.wa (st0 c)∧w.heap.size≤a∧w.heap.size≤b∧w.heap.size≤g∧Chg [] w w' from fun w=>hnew_ok c.se c.wa w HC.out.new)
      go_wp2_with fail
      go_region_held3 (fun w'=>w'.heap[sy]? =some (.cells (rsc c q (.slice (some ⟨be,0,none⟩) c.li cap) (.slice A k ac) (.slice (some ⟨po,0,none⟩) c.co c.co)) 107 (0,0))) (first |with_reducible exact rS|exact (Chg.refl [] wr).drew.keep rS Vn|exact cw5.keep rS Vn)
       (first |(go_at_call 102;refine (HN.out _).mono ?_;rintro e w5 ⟨g,a,b,rfl,hR5,ha5,hb5,hg5,cw5⟩))
      all_goals
       have c5:Chg [] wr w5:=((Chg.refl [] wr).drew).trans cw5
       have s5:=c5.keep rS Vn
       have p5:=c5.keep rP Vn
       have e5:=c5.keep rE Vn
       have HR5:=Vh hR5
       have HG5:=Vh (show wr.heap.size≤g∧wr.heap.size≤a∧wr.heap.size≤b from ⟨hg5,ha5,hb5⟩)
       have C5:=Vh c5
       have AG5:=Vh (fun y hy=>(HAG.out y hy).keep c5)
       have ca:Chg [] w5 (w5.alloc (.cells #[.pointer (some ⟨g,0,none⟩)] 127)):=(Chg.refl [] w5).alloc _
       obtain ⟨ab',ac',A',w6,happ,hv6,hab6,hc6,hq6⟩:=app_one (ty:=104) (k:=k) eltAg (HV.out.keep (c5.trans ca) Vn) (old (ca.keep s5 Vn)) ((g,a,b):Trip) HKK.out (by have:=HC.out.co8;omega) (by have:=HC.out.co8;unfold maxLen;omega) (b5:=w5.heap.size) (by simp [tenc])
       have hs6:=hq6.trans (ca.keep s5 Vn)
       have o5:=old s5
       have HV6:=Vh hv6
       have HB6:=Vh (show ab'=ab∨w5.heap.size≤ab' from by rcases hab6 with h|h;exact .inl h;exact .inr (Nat.le_trans ca.size h))
       have HC6:=Vh (And.intro ca hc6)
       have OS6:=old hs6
       clear hR5 ha5 hb5 hg5 cw5 c5 hv6 hab6 hc6 hq6 rS oS rP rE
       go_wp2_with fail
       have hk0:=HKK.out
       have NB6:ab'≠sy:=(HV6.out.there (by simp)).1
       have hca:=HC6.out.1
       have hc6:=HC6.out.2
       have c7:Chg [sy] w6 (w6.setCell ⟨sy,9,none⟩ (.slice A' (k+1) ac')):=(Chg.refl [sy] w6).setCell sy 9 _ (.inl (by simp))
       have hpb:=HNB.out
       have hgb:=HGB.out
       have habs:=HAB.out
       have habo:=HOAB.out
       have hg5:=HG5.out
       have hsz5:=C5.out.size
       have hsza:=hca.size
       have hsz6:=hc6.size
       have hsy:=HSY.out
       have hpo:=HPO.out
       have l5:=HR5.out.old2
       have lg5:=ZS HR5.out.2.1
       simp only [List.mem_cons,Vn,or_false,forall_eq_or_imp,forall_eq] at l5
       have hgab:=HR5.out.2.2.1
       have hab5:a≠b:=by have:=HR5.out.1;obtain ⟨_,_,h,_⟩:=this;exact h
       have hin:∀y∈gs,∀x∈[y.1,y.2.1,y.2.2],be<x∧x<wr.heap.size∧x≠ab:=fun y hy x hx=>HLT.out x (List.mem_flatMap.2 ⟨y,hy,hx⟩)
       have S7:=Vh (show (w6.setCell ⟨sy,9,none⟩ (.slice A' (k+1) ac')).heap[sy]? =some (.cells (rsc c q (.slice (some ⟨be,0,none⟩) c.li cap) (.slice A' (k+1) ac') (.slice (some ⟨po,0,none⟩) c.co c.co)) 107 (0,0)) by rw [heap_setCell,if_pos rfl,hs6,Qh];rfl)
       have V7:=Vh (HV6.out.keep c7 (by simpa using NB6))
       have P7:=Vh (c7.keep (hc6.keep (hca.keep p5 Vn) (by simp;omega)) (by simp;omega))
       have E7:=Vh (c7.keep (hc6.keep (hca.keep e5 Vn) (by simp;omega)) (by simp;omega))
       have B7:=Vh (show ab'=sy∨be<ab' by have:=HB6.out;omega)
       have G7:=Vh (show ∀y∈gs++[((g,a,b):Trip)],RAg (w6.setCell ⟨sy,9,none⟩ (.slice A' (k+1) ac')) y.1 y.2.1 y.2.2 c.se c.wa (st0 c) by
        intro y hy
        rcases List.mem_append.1 hy with h1|h1
        ·have h2:=hin y h1
         simp only [List.mem_cons,Vn,or_false,forall_eq_or_imp,forall_eq] at h2
         exact (((AG5.out y h1).keep hca).apart hc6 (by simp;omega)).apart c7 (by simp;omega)
        ·rw [Vs h1]
         exact ((HR5.out.keep hca).apart hc6 (by simp;omega)).apart c7 (by simp;omega))
       have N7:=Vh (show (Qb8 (gs++[((g,a,b):Trip)])).Nodup by
        rw [Qcr,List.nodup_append]
        refine ⟨HND.out,by simp at hgab ⊢;omega,?_⟩
        intro x hx y hy e
        subst e
        have h2:=(HLT.out x hx).2.1
        simp only [List.mem_cons,Vn,or_false] at hy
        omega)
       have hsz7:(w6.setCell ⟨sy,9,none⟩ (.slice A' (k+1) ac')).heap.size=w6.heap.size:=by simp
       have L7:=Vh (show ∀x∈Qb8 (gs++[((g,a,b):Trip)]),be<x∧x<(w6.setCell ⟨sy,9,none⟩ (.slice A' (k+1) ac')).heap.size∧x≠ab' by
        intro x hx
        rw [hsz7]
        have hB6:=HB6.out
        rw [Qcr,List.mem_append] at hx
        rcases hx with h1|h1
        ·have:=HLT.out x h1;omega
        ·simp only [List.mem_cons,Vn,or_false] at h1
         omega)
       have C7:=Vh (show Chg [sy] w (w6.setCell ⟨sy,9,none⟩ (.slice A' (k+1) ac')) from (((HCH.out.trans (C5.out.mono (by simp))).trans (hca.mono (by simp))).trans' hc6 (by
        intro x hx
        rw [List.mem_singleton] at hx
        simp only [List.mem_singleton]
        omega)).trans c7)
       have hlen:(gs++[((g,a,b):Trip)]).length=k+1:=by simp [hk0]
       have LN:=Vh hlen
       clear hk0 NB6 hca hc6 c7 hpb hgb habs habo hg5 hsz5 hsza hsz6 hsy hpo l5 lg5 hgab hab5 hin hsz7 hlen s5 p5 e5 o5 OS6 hs6 happ ca
       generalize w6.setCell ⟨sy,9,none⟩ (.slice A' (k+1) ac')=w7 at *
       go_wp2_with fail
       go_roundw
       case rel=>exact ⟨gs++[(g,a,b)],ab',ac',A',by rw [LN.out];omega,by rw [LN.out];go_num,by rw [LN.out];exact S7.out,V7.out,P7.out,E7.out,B7.out,G7.out,N7.out,L7.out,C7.out⟩
       case measure=>simp [intOf];omega
     ·obtain rfl:k=c.co:=by omega
      obtain ⟨nb,rfl,ar,rA,_⟩:=HV.out.there (by rw [HKK.out];exact HC.out.co1)
      have hle:=HV.out.le
      have hk0:=HKK.out
      rw [hk0] at hle
      have hab9:be<ab:=by have:=HAB.out;omega
      have hpb:=HNB.out
      have hpo:=HPO.out
      have HF:=Vh (show RFresh W w c sy q wr by
       refine ⟨be,cap,r,ab,ac,ar,po,YP po c gs,rS,?_,by simp [YP,hk0],rE,?_,hle,HCAP.out,?_,by rw [Qd2,hk0],?_,?_,HCH.out⟩
       ·rw [←portsOf_rq po c gs c.co hk0];exact rP
       ·rw [←portsOf_ra po c gs];exact rA
       ·intro y hy
        unfold YP at hy
        obtain ⟨y0,hy0,rfl⟩:=List.mem_map.1 hy
        exact ⟨HAG.out y0 hy0,.inl ⟨rfl,rfl,rfl,rfl⟩,.inl ⟨rfl,rfl,rfl,rfl⟩,.inl ⟨rfl,rfl,rfl,rfl⟩⟩
       ·rw [Qaq,List.nodup_cons,List.nodup_cons,List.nodup_cons]
        refine ⟨?_,?_,?_,HND.out⟩
        ·intro hm
         simp only [List.mem_cons] at hm
         rcases hm with h1|h1|h1
         ·omega
         ·omega
         ·have:=(HLT.out _ h1).1;omega
        ·intro hm
         rcases List.mem_cons.1 hm with h1|h1
         ·omega
         ·have:=(HLT.out _ h1).1;omega
        ·intro hm
         exact (HLT.out _ hm).2.2 rfl
       ·rw [Qaq]
        intro x hx
        simp only [List.mem_cons] at hx
        rcases hx with h1|h1|h1|h1
        ·omega
        ·omega
        ·omega
        ·have:=(HLT.out x h1).1;omega)
      have oS:=old rS
      clear rP rE rA hle hk0 hab9 hpb hpo
      go_wp2_with fail
      go_end0
      exact ⟨rfl,HF.out⟩
end
section
section
variable {W:World} {c:Cg} {z:RLay} {L:List (Po×Pt)} {en:List En} {es:List Ent} {xs:List Int}
theorem rfail_sys (w:World) (h:Rsd W w c z L en es xs) (hc:c.Ok):Calls Tryz.prog 63 #[.pointer (some ⟨z.sy,0,none⟩)] w fun e w'=>e=.returned (.tuple #[])∧∃z' L',RTo W w c z L z' L' (List.replicate c.li enE) [] (XE (over xs es) c.vo) w'∧z'.sy=z.sy∧ports L'=List.replicate c.co (pt0 c):=by
 have rS:=h.sys
 have HH:=Vh h
 have HG:=Vh (rany_fail h.mem.2)
 have HC:=Vh hc
 clear h hc
 go_enter Tryz.func63,Tryz.ntmps63
 try dsimp only [List.append]
 go_wp2_with fail
 refine HG.out.mono ?_
 rintro e w2 ⟨rfl,be',hs2,hc2,hb2⟩
 have hin:∀k∈[z.q,z.be,z.g,z.b],W.heap.size≤k:=fun k hk=>HH.out.new k (RLay.inB (RLay.beB (by
  simp only [List.mem_cons,Vn,or_false] at hk
  rcases hk with h|h|h|h<;>simp [h])))
 have HM2:=Vh (HH.out.memory ⟨HH.out.chg.trans' hc2 (fun k hk=>.inr (hin k hk)),hs2⟩ hc2 hb2)
 clear hs2 hc2 hb2 rS HG
 have n6:=HM2.out.1.nodupB
 have hf:=Qgf W w2 c HC.out z.sy z.q _ _ _ HM2.out.1.chg (HH.out.new _ (RLay.inB (RLay.beB (by simp)))) HM2.out.1.sys
 have HF:=Vh hf
 have HN:=Vh n6
 clear hf n6
 go_wp2_with fail
 refine HF.out.mono ?_
 rintro e w3 ⟨rfl,hfr⟩
 have hnd:([z.sy,z.q,z.g,z.b]++opt z.q be').Nodup:=by
  have h1:=HN.out
  unfold RLay.base at h1
  refine h1.sublist ?_
  refine List.Sublist.append ?_ (List.Sublist.refl _)
  exact (List.Sublist.refl [z.sy,z.q,z.g,z.b]).trans (List.sublist_append_left [z.sy,z.q,z.g,z.b] [z.po,z.en,z.ab])
 have hsub:∀k∈[z.sy,z.q,z.g,z.b]++opt z.q be',k∈({z with be:=be'}:RLay).all L:=by
  intro k hk
  refine RLay.inB ?_
  unfold RLay.base
  simp only [List.mem_append,List.mem_cons,Vn,or_false] at hk ⊢
  rcases hk with (h|h|h|h)|h<;>simp [h]
 obtain ⟨z',L',hz,hm3,hp3,hc3,hk3⟩:=Qgd HM2.out.1.chg HM2.out.1.sys HM2.out.1.mem.2 hnd (fun k hk=>HM2.out.1.new k (hsub k hk)) hfr
 have HR:=Vh (show RTo W w2 c {z with be:=be'} L z' L' (List.replicate c.li enE) [] (XE (over xs es) c.vo) w3 from ⟨hm3,hc3.mono (fun x hx=>.inl (by rw [Vs hx];exact RLay.inB (RLay.beB (by simp)))),fun k hk=>by
  rcases hk3 k hk with h|h
  ·exact .inl (hsub k h)
  ·exact .inr h⟩)
 have HP:=Vh hp3
 have HZ:=Vh hz
 clear hfr hm3 hc3 hk3 hp3 hz hnd hsub hin
 go_wp2_with fail
 go_end0
 exact ⟨rfl,z',L',HM2.out.trans HR.out,HZ.out,HP.out⟩
end
section
variable {W w:World} {c:Cg} {sy n:Nat} {F:List Nat} {S:Mst} {cur:Nat→List Int} (hm:RMS W w c sy F S) (hI:Inv c n S cur)
include hm hI
theorem rfail9:Calls Tryz.prog 63 #[.pointer (some ⟨sy,0,none⟩)] w fun e w'=>e=.returned (.tuple #[])∧RMTS W w c sy F (failM c S) w':=by
 obtain ⟨z,L,rfl,rfl,hps,h⟩:=id hm
 exact (rfail_sys w h hI.ok).mono fun e w' ⟨he,z',L',M,hz,hp⟩=>⟨he,RMTS.of M hz hp⟩
end
end
section
theorem znew_bad (c0 c1 c2 c3 c4 c5 c6:Int) (A:Option Addr) (n nc:Nat) (w:World) (hg:Ys c0 c1 c2 c3 c4 c5 c6=false):Calls Tryz.prog 12 #[.agg #[.int .i64 c0,.int .i64 c1,.int .i64 c2,.int .i64 c3,.int .i64 c4,.int .i64 c5,.int .i64 c6],.slice A n nc] w fun e w'=>e=.returned (.tuple #[.pointer none,.int .i64 1])∧Chg [] w w':=by
 go_enter Tryz.func12,Tryz.ntmps12
 try dsimp only [List.append]
 go_wp2_with fail
 refine (good_any c0 c1 c2 c3 c4 c5 c6 _).mono ?_
 rintro e w2 ⟨rfl,hw2⟩
 have c2:Chg [] w w2:=by subst hw2;exact ((Chg.refl [] w).alloc _).alloc _
 clear hw2
 rw [hg]
 go_wp2_with fail
 go_ret2
 exact ⟨rfl,c2⟩
theorem znew_len (c:Cg) (hc:c.Ok) (A:Option Addr) (n nc:Nat) (w:World) (hn:n≠0) (hn2:n≠c.li):Calls Tryz.prog 12 #[.agg c.cells,.slice A n nc] w fun e w'=>e=.returned (.tuple #[.pointer none,.int .i64 1])∧Chg [] w w':=by
 have t0:((n:Int) !=0)=true:=by simp;omega
 have t1:((n:Int) != (c.li:Int))=true:=by simp;omega
 have HG:=Vh (fun w=>zgood_at c hc w)
 clear hn hn2 hc
 go_enter Tryz.func12,Tryz.ntmps12
 exact Tz85
theorem rnew_badC (c0 c1 c2 c3 c4 c5 c6:Int) (A:Option Addr) (n nc:Nat) (w:World) (hg:Ys c0 c1 c2 c3 c4 c5 c6=false):Calls Tryz.prog 13 #[.agg #[.int .i64 c0,.int .i64 c1,.int .i64 c2,.int .i64 c3,.int .i64 c4,.int .i64 c5,.int .i64 c6],.slice A n nc] w fun e w'=>e=.returned (.tuple #[.pointer none,.int .i64 1])∧Chg [] w w':=by
 go_enter Tryz.func13,Tryz.ntmps13
 try dsimp only [List.append]
 go_wp2_with fail
 refine (mgood_false c0 c1 c2 c3 c4 c5 c6 _ hg).mono ?_
 rintro e w2 ⟨rfl,c2⟩
 go_wp2_with fail
 go_ret2
 exact ⟨rfl,((Chg.refl [] w).alloc _).trans c2⟩
theorem rnew_len (c:Cg) (hc:c.Ok) (A:Option Addr) (n nc:Nat) (w:World) (hn:n≠0) (hn2:n≠c.li):Calls Tryz.prog 13 #[.agg c.cells,.slice A n nc] w fun e w'=>e=.returned (.tuple #[.pointer none,.int .i64 1])∧Chg [] w w':=by
 have t0:((n:Int) !=0)=true:=by simp;omega
 have t1:((n:Int) != (c.li:Int))=true:=by simp;omega
 have HG:=Vh (fun w=>Qey c hc w)
 clear hn hn2 hc
 go_enter Tryz.func13,Tryz.ntmps13
 exact Tz85
def RMade (W w:World) (c:Cg) (xs:List Int):Ending→World→Prop:=fun e w'=>∃sy F,e=.returned (.tuple #[.pointer (some ⟨sy,0,none⟩),.int .i64 0])∧RMS W w' c sy F ⟨List.replicate c.co (pt0 c),List.replicate c.li enE,[],xs⟩∧Chg [] w w'∧∀k∈F,w.heap.size≤k
def rsz (c:Cg) (q:Option Nat):Array Value:=(c.enc++([.pointer (q.map fun k=>⟨k,0,none⟩),.slice none 0 0,.slice none 0 0,.slice none 0 0]:List Value)).toArray
theorem Qgw (c:Cg):Array.foldl (fun cs y=>cs.setIfInBounds (0+y.snd) y.fst) (#[.int .i64 0,.int .i64 0,.int .i64 0,.int .i64 0,.int .i64 0,.int .i64 0,.int .i64 0,.pointer none,.slice none 0 0,.slice none 0 0,.slice none 0 0]:Array Value) c.cells.zipIdx 0 7=rsz c none:=by
 rw [J1 _ _ 0 7 rfl (by simp)]
 simp [Z9,rsz,Cg.cells,Cg.enc]
theorem fold_rcg (c:Cg):Array.foldl (fun cs y=>cs.setIfInBounds y.snd y.fst) (#[.int .i64 0,.int .i64 0,.int .i64 0,.int .i64 0,.int .i64 0,.int .i64 0,.int .i64 0,.pointer none,.slice none 0 0,.slice none 0 0,.slice none 0 0]:Array Value) c.cells.zipIdx 0 7=rsz c none:=by
 have:=Qgw c
 simp only [Nat.zero_add] at this
 exact this
theorem rsz_put (c:Cg) (q:Nat):(rsz c none).setIfInBounds 7 (.pointer (some ⟨q,0,none⟩))=rsz c (some q):=rfl
theorem rsz_size (c:Cg) (q:Option Nat):(rsz c q).size=11:=rfl
attribute [local go_sem] Qgw fold_rcg rsz_size
attribute [local go_sem ↓] rsz_put
attribute [local simp] Qgw fold_rcg rsz_put rsz_size
theorem forget_zeros (n v:Nat) (h:v≤n):XE (List.replicate (n*8) 0) v=List.replicate (n*8) 0:=by
 unfold XE Z9
 rw [List.take_zero,List.nil_append,List.length_replicate,List.drop_replicate,List.replicate_append_replicate]
 congr 1
 omega
set_option maxHeartbeats 4000000 in
theorem rnew_none (W w:World) (c:Cg) (hc:c.Ok) (hW:Chg [] W w) (A:Option Addr) (nc:Nat):Calls Tryz.prog 13 #[.agg c.cells,.slice A 0 nc] w (RMade W w c (XE (List.replicate (c.li*8) 0) c.vo)):=by
 have HC:=Vh hc
 have HW:=Vh hW
 clear hc hW
 go_enter Tryz.func13,Tryz.ntmps13
 try dsimp only [List.append]
 go_wp2_with fail
 have r1:(w.alloc (.cells c.cells 23)).heap[w.heap.size]? =some (.cells c.cells 23 (0,0)):=by simp
 have C1:=Vh ((Chg.refl [] w).alloc (.cells c.cells 23))
 refine (Qey c HC.out _).mono ?_
 rintro e w2 ⟨rfl,c2⟩
 replace r1:=c2.keep r1 Vn
 have o1:=old r1
 have C2:=Vh (C1.out.trans c2)
 clear C1 c2
 have NB0:=Vh o1.lt
 have HB1:=Vh (Nat.le_refl w.heap.size)
 generalize w.heap.size=b1 at r1 o1 NB0 HB1 ⊢
 go_wp2_with fail
 refine (rnvm_ok c.li c.vo w2 HC.out.li2 HC.out.li64 HC.out.vo1 HC.out.vol).mono ?_
 rintro e w3 ⟨rfl,c3,hdev,hsz⟩
 replace r1:=c3.keep r1 Vn
 replace o1:=old r1
 have C3:=Vh (C2.out.trans c3)
 have HD:=Vh hdev
 have HGB:=Vh (show w.heap.size≤w2.heap.size+1∧w.heap.size≤w2.heap.size from ⟨by have:=C2.out.size;omega,C2.out.size⟩)
 have NB1:=Vh (show b1<w2.heap.size+1∧b1<w2.heap.size from ⟨by have:=NB0.out;omega,NB0.out⟩)
 generalize w2.heap.size+1=g at HD HGB NB1 ⊢
 generalize w2.heap.size=b at HD HGB NB1
 clear c3 hsz
 go_wp2_with fail
 obtain ⟨b',hb'⟩:∃b',b'=b:=⟨_,rfl⟩
 rw [←hb'] at HD HGB NB1
 clear hb'
 obtain ⟨ys,hys⟩:∃ys,ys=List.replicate (c.li*8) (0:Int):=⟨_,rfl⟩
 rw [←hys] at HD
 have HYS:=Vh hys
 clear hys
 have CR:=C3
 have DR:=HD
 have HG:=HGB
 have NBR:=NB1
 obtain ⟨wr,hwr⟩:∃wr,wr=w3:=⟨_,rfl⟩
 rw [←hwr] at r1 o1 CR DR ⊢
 clear hwr
 refine (rfail_ok g b' c.li c.vo ys wr DR.out).mono ?_
 rintro e wf ⟨rfl,cf,df⟩
 have CF:=Vh (CR.out.trans' cf (fun x hx=>.inr (by rw [Vs hx];exact HG.out.2)))
 have DF:=Vh df
 replace r1:=cf.keep r1 (by have:=NBR.out;simp;omega)
 replace o1:=old r1
 clear cf df
 go_wp2_with fail
 refine (rqnew_ok g c.li c.qu wf HC.out.li2 HC.out.li64 HC.out.qu1 HC.out.qu16).mono ?_
 rintro e w4 ⟨q,rfl,hq0,c4,hque⟩
 replace r1:=c4.keep r1 Vn
 replace o1:=old r1
 have DQ:=Vh (DF.out.keep c4 (by simp) (by simp))
 have HQ:=Vh hque
 have HQ0:=Vh (show wf.heap.size≤q from hq0)
 have HGF:=Vh (show g<wf.heap.size∧b'<wf.heap.size∧g≠b' from ⟨DF.out.oldg,DF.out.oldb,by obtain ⟨_,_,_,_,_,_,_,h⟩:=DF.out;exact h⟩)
 have C4:=Vh (CF.out.trans c4)
 have CFW:=Vh CF.out.size
 clear hque hq0 c4
 go_upto_region 9 with fail
 have rS:(w4.alloc (.cells (rsz c (some q)) 107)).heap[w4.heap.size]? =some (.cells (rsc c q (.slice none 0 0) (.slice none 0 0) (.slice none 0 0)) 107 (0,0)):=Yr _ _
 have K5:=Vh ((Chg.refl [] w4).alloc (.cells (rsz c (some q)) 107))
 have NQ:=Vh (show q<w4.heap.size∧g<w4.heap.size∧b'<w4.heap.size from ⟨HQ.out.oldq.lt,DQ.out.oldg,DQ.out.oldb⟩)
 have SY0:=Vh C4.out.size
 have HSZ:=Vh (show w4.heap.size≤(w4.alloc (.cells (rsz c (some q)) 107)).heap.size by simp)
 generalize w4.heap.size=sy at rS NQ SY0 HSZ ⊢
 generalize w4.alloc (.cells (rsz c (some q)) 107)=w5 at rS K5 HSZ ⊢
 have hf:=Qgf W w5 c HC.out sy q _ _ _ ((HW.out.trans C4.out).trans K5.out) (Nat.le_trans HW.out.size SY0.out) rS
 have HF:=Vh hf
 have HRS:=Vh rS
 clear hf rS r1 o1
 go_wp2_with fail
 refine HF.out.mono ?_
 rintro e w6 ⟨rfl,hfr⟩
 have hap:RApart q q g b':=by have:=HQ0.out;have:=HGF.out;exact ⟨by omega,by omega,by omega,by omega⟩
 have hS5:RSys w5 q q g b' c.li c.vo c.qu [] (XE ys c.vo):=⟨HQ.out.keep K5.out (by simp) (by simp),DQ.out.keep K5.out (by simp) (by simp),hap⟩
 have hnd:([sy,q,g,b']++opt q q).Nodup:=by
  have h1:=NQ.out
  have h2:=HGF.out.2.2
  obtain ⟨a1,a2,a3,a4⟩:=hap
  simp [opt]
  omega
 have hge:∀k∈[sy,q,g,b']++opt q q,w.heap.size≤k:=by
  intro k hk
  have h1:=HG.out
  have h2:=HQ0.out
  have h3:=CFW.out
  have h4:=SY0.out
  simp [opt] at hk
  omega
 obtain ⟨z,L,hz,hm,hp,hc6,hk6⟩:=Qgd ((HW.out.trans C4.out).trans K5.out) HRS.out hS5 hnd (fun k hk=>Nat.le_trans HW.out.size (hge k hk)) hfr
 have HFIN:=Vh (show RMade W w c (XE ys c.vo) (.returned (.tuple #[.pointer (some ⟨sy,0,none⟩),.int .i64 0])) w6 by
  exact Tz98)
 clear hfr hm hp hc6 hk6 hnd hS5 hge hz
 go_wp2_with fail
 go_ret2
 have hfin:=HFIN.out
 rw [HYS.out] at hfin
 exact hfin
set_option maxHeartbeats 4000000 in
theorem rnew_img (W w:World) (c:Cg) (hc:c.Ok) (hW:Chg [] W w) (A:Option Addr) (nc:Nat) (ys:List Int) (hs:Sl w 8 A c.li (ys.map (Value.int .u64))):Calls Tryz.prog 13 #[.agg c.cells,.slice A c.li nc] w (RMade W w c (XE ys c.vo)):=by
 have HC:=Vh hc
 have HW:=Vh hW
 have HSL:=Vh hs
 have tl0:((c.li:Int) !=0)=true:=by have:=hc.li2;simp;omega
 have tl1:((c.li:Int) != (c.li:Int))=false:=by simp
 have tl2:decide ((0:Int)<(c.li:Int))=true:=by have:=hc.li2;simp;omega
 have tl3:0<c.li:=by have:=hc.li2;omega
 clear hc hW hs
 go_enter Tryz.func13,Tryz.ntmps13
 try dsimp only [List.append]
 go_wp2_with fail
 have r1:(w.alloc (.cells c.cells 23)).heap[w.heap.size]? =some (.cells c.cells 23 (0,0)):=by simp
 have C1:=Vh ((Chg.refl [] w).alloc (.cells c.cells 23))
 refine (Qey c HC.out _).mono ?_
 rintro e w2 ⟨rfl,c2⟩
 replace r1:=c2.keep r1 Vn
 have o1:=old r1
 have C2:=Vh (C1.out.trans c2)
 clear C1 c2
 have NB0:=Vh o1.lt
 have HB1:=Vh (Nat.le_refl w.heap.size)
 generalize w.heap.size=b1 at r1 o1 NB0 HB1 ⊢
 go_wp2_with fail
 refine (rnvm_ok c.li c.vo w2 HC.out.li2 HC.out.li64 HC.out.vo1 HC.out.vol).mono ?_
 rintro e w3 ⟨rfl,c3,hdev,hsz⟩
 replace r1:=c3.keep r1 Vn
 replace o1:=old r1
 have C3:=Vh (C2.out.trans c3)
 have HD:=Vh hdev
 have HGB:=Vh (show w.heap.size≤w2.heap.size+1∧w.heap.size≤w2.heap.size from ⟨by have:=C2.out.size;omega,C2.out.size⟩)
 have NB1:=Vh (show b1<w2.heap.size+1∧b1<w2.heap.size from ⟨by have:=NB0.out;omega,NB0.out⟩)
 generalize w2.heap.size+1=g at HD HGB NB1 ⊢
 generalize w2.heap.size=b at HD HGB NB1
 clear c3 hsz
 go_wp2_with fail
 refine (rrestore_ok g b c.li c.vo _ ys A nc w3 HD.out (HSL.out.chg C3.out (by simp))).mono ?_
 rintro e wr ⟨rfl,b',hb',cr,dr⟩
 have CR:=Vh (C3.out.trans' cr (fun x hx=>.inr (by rw [Vs hx];exact HGB.out.1)))
 have DR:=Vh dr
 have HG:=Vh (show w.heap.size≤g∧w.heap.size≤b' from ⟨HGB.out.1,Nat.le_trans C3.out.size hb'⟩)
 have NBR:=Vh (show b1<g∧b1<b' from ⟨NB1.out.1,Nat.lt_of_lt_of_le o1.lt hb'⟩)
 replace r1:=cr.keep r1 (by have:=NB1.out;simp;omega)
 replace o1:=old r1
 clear cr dr hb'
 go_wp2_with fail
 refine (rfail_ok g b' c.li c.vo ys wr DR.out).mono ?_
 rintro e wf ⟨rfl,cf,df⟩
 have CF:=Vh (CR.out.trans' cf (fun x hx=>.inr (by rw [Vs hx];exact HG.out.2)))
 have DF:=Vh df
 replace r1:=cf.keep r1 (by have:=NBR.out;simp;omega)
 replace o1:=old r1
 clear cf df
 go_wp2_with fail
 refine (rqnew_ok g c.li c.qu wf HC.out.li2 HC.out.li64 HC.out.qu1 HC.out.qu16).mono ?_
 rintro e w4 ⟨q,rfl,hq0,c4,hque⟩
 replace r1:=c4.keep r1 Vn
 replace o1:=old r1
 have DQ:=Vh (DF.out.keep c4 (by simp) (by simp))
 have HQ:=Vh hque
 have HQ0:=Vh (show wf.heap.size≤q from hq0)
 have HGF:=Vh (show g<wf.heap.size∧b'<wf.heap.size∧g≠b' from ⟨DF.out.oldg,DF.out.oldb,by obtain ⟨_,_,_,_,_,_,_,h⟩:=DF.out;exact h⟩)
 have C4:=Vh (CF.out.trans c4)
 have CFW:=Vh CF.out.size
 clear hque hq0 c4
 go_upto_region 9 with fail
 have rS:(w4.alloc (.cells (rsz c (some q)) 107)).heap[w4.heap.size]? =some (.cells (rsc c q (.slice none 0 0) (.slice none 0 0) (.slice none 0 0)) 107 (0,0)):=Yr _ _
 have K5:=Vh ((Chg.refl [] w4).alloc (.cells (rsz c (some q)) 107))
 have NQ:=Vh (show q<w4.heap.size∧g<w4.heap.size∧b'<w4.heap.size from ⟨HQ.out.oldq.lt,DQ.out.oldg,DQ.out.oldb⟩)
 have SY0:=Vh C4.out.size
 have HSZ:=Vh (show w4.heap.size≤(w4.alloc (.cells (rsz c (some q)) 107)).heap.size by simp)
 generalize w4.heap.size=sy at rS NQ SY0 HSZ ⊢
 generalize w4.alloc (.cells (rsz c (some q)) 107)=w5 at rS K5 HSZ ⊢
 have hf:=Qgf W w5 c HC.out sy q _ _ _ ((HW.out.trans C4.out).trans K5.out) (Nat.le_trans HW.out.size SY0.out) rS
 have HF:=Vh hf
 have HRS:=Vh rS
 clear hf rS r1 o1
 go_wp2_with fail
 refine HF.out.mono ?_
 rintro e w6 ⟨rfl,hfr⟩
 have hap:RApart q q g b':=by have:=HQ0.out;have:=HGF.out;exact ⟨by omega,by omega,by omega,by omega⟩
 have hS5:RSys w5 q q g b' c.li c.vo c.qu [] (XE ys c.vo):=⟨HQ.out.keep K5.out (by simp) (by simp),DQ.out.keep K5.out (by simp) (by simp),hap⟩
 have hnd:([sy,q,g,b']++opt q q).Nodup:=by
  have h1:=NQ.out
  have h2:=HGF.out.2.2
  obtain ⟨a1,a2,a3,a4⟩:=hap
  simp [opt]
  omega
 have hge:∀k∈[sy,q,g,b']++opt q q,w.heap.size≤k:=by
  intro k hk
  have h1:=HG.out
  have h2:=HQ0.out
  have h3:=CFW.out
  have h4:=SY0.out
  simp [opt] at hk
  omega
 obtain ⟨z,L,hz,hm,hp,hc6,hk6⟩:=Qgd ((HW.out.trans C4.out).trans K5.out) HRS.out hS5 hnd (fun k hk=>Nat.le_trans HW.out.size (hge k hk)) hfr
 have HFIN:=Vh (show RMade W w c (XE ys c.vo) (.returned (.tuple #[.pointer (some ⟨sy,0,none⟩),.int .i64 0])) w6 by
  exact Tz98)
 clear hfr hm hp hc6 hk6 hnd hS5 hge hz
 go_wp2_with fail
 go_ret2
 exact HFIN.out
end
end Go.Proofs.YtadeoflkppiflaaGreatDoor
