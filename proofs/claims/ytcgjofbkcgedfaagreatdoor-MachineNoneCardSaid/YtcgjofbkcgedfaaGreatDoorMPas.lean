/- Texts of the walk, one behind the other: Mcl Tca Mcm Mcn Mco Mgu. No condition. -/
import Derived.Test.YtcgjofbkcgedfaaGreatDoorMPaa
import Derived.Test.YtcgjofbkcgedfaaGreatDoorMPac
import Derived.Test.YtcgjofbkcgedfaaGreatDoorMPai
import Derived.Test.YtcgjofbkcgedfaaGreatDoorMPaj
import Derived.Test.YtcgjofbkcgedfaaGreatDoorMPal
import Derived.Test.YtcgjofbkcgedfaaGreatDoorMPam
import Derived.Test.YtcgjofbkcgedfaaGreatDoorMPar
import Derived.BigQuiet
import Derived.ChangeKeysEq
import Derived.Deep.Cut
import Derived.Deep.CutBlock
import Derived.Deep.CutRange
import Derived.Deep.DeepCutAuto
import Derived.Deep.QuietTactic
import Derived.Deep.RegionHeld3
import Derived.Deep.RegionWith
import Derived.Laws.StructEq
namespace Go.Proofs.YtcgjofbkcgedfaaGreatDoor
open Go.RowKit
set_option linter.unusedVariables false
set_option maxHeartbeats 1000000
set_option maxRecDepth 100000
attribute [local go_sem ↓] Qv QF Qy QO QE Qs Qk Qh heap_alloc Ql heap_setCell Qc Yq Xu Xg ZP YD XA YC Xz Yi Yh Yd Ye Yf Xh XW XV XU Xj YK YL YJ YG YH YX YT XE YV YW YU YS Qbz J9 Qca Qcb Qb9 Qbv Qby Qbw Qbx
attribute [local go_sem] Qb Qa Qd Qi Qe Qg Qf QB Qw QN QL QM Q5 QK QA Qr QD QW QJ Qq QC Qp Qj Qo Qn Yc Xf YB Q8 Xv Xw JT Yg ZZ ZY ZX ZW Yn Ym Yj Yk Yl QG ZQ Xi ZR XT Zc XB YI XC Qad Xa Z9 Z8 Z7 Z6 YP YQ YO YM YN Z3 QY QZ QX QP Qt Zk Qbt ZU JX Qb8 JY Y2 Xd
attribute [local simp ↓] Qk Qh heap_alloc Ql heap_setCell Qc
attribute [local simp] Qb Qa Qd Qi Qe Qg Qf Qr Qj Qo Qn Q8 QG Zc QY QZ QX QP Qt QD ZU Xd
attribute [local go_sem ↓] Qh
attribute [local go_sem ↓] ZK Zt Yx
attribute [local go_sem] ZH QH ZJ
attribute [local simp] Yx QH
section
def entA (c:Cg) (S:Mst) (li:Int):En:=if inB li c.li=true then (S.en[li.toNat]?).getD enE else enE
theorem newer_ent (c:Cg) (S:Mst) (li:Int):newerB c S li=(entA c S li).di:=by
 unfold newerB entA
 split
 ·cases S.en[li.toNat]? with
  |none=>rfl
  |some e=>rfl
 ·rfl
theorem ec_field (e:En) (w:World):(Instr.field 120 (.agg (ec e)) 1).run Tryz.prog w=.ok (.bool e.di) w:=by
 obtain ⟨he,di,l,ow,sh,bu,by_,wa,hl⟩:=e
 match l,hl with
 |[a0,a1,a2,a3,a4,a5,a6,a7],_=>
  show (Instr.field 120 (.agg #[.bool he,.bool di,.int .u64 a0,.int .u64 a1,.int .u64 a2,.int .u64 a3,.int .u64 a4,.int .u64 a5,.int .u64 a6,.int .u64 a7,.int .i64 ow,.int .u8 (mi sh),.int .i64 bu,.int .i64 by_,.int .u8 (mi wa)]) 1).run Tryz.prog w=.ok (.bool di) w
  kernel_rfl
theorem mentry {W w:World} {c:Cg} {sy:Nat} {F:List Nat} {S:Mst} (hm:MS W w c sy F S) (li:Int):Calls Tryz.prog 47 #[.pointer (some ⟨sy,0,none⟩),.int .i64 li] w fun r w'=>r=.returned (.agg (ec (entA c S li)))∧Chg [] w w':=by
 obtain ⟨z,L,rfl,_,_,h⟩:=hm
 unfold entA
 split
 ·rename_i hb
  have hb2:=X3.1 hb
  obtain ⟨i,rfl⟩:∃i:Nat,li=(i:Int):=⟨li.toNat,by omega⟩
  have hi:i<S.en.length:=by rw [h.lines];omega
  rw [Int.toNat_natCast,List.getElem?_eq_getElem hi]
  exact zentry_ok i _ w h (List.getElem?_eq_getElem hi)
 ·rename_i hb
  exact zentry_off li w h (by simpa using hb)
theorem MaM.tellOne {W w w3:World} {c:Cg} {mp cb sy:Nat} {F3 Ft:List Nat} {ks:List Kp} {RA:Option Addr} {rcap:Nat} {M':Mac} (h3:MaM W w3 c mp cb sy F3 ks RA rcap M') (hc:Chg Ft w w3) (hF:∀b∈mp::cb::(Xn ks++F3),b∈Ft∨w.heap.size≤b) (e:Ev):
 DoTo W w c mp RA rcap Ft (M',[e]) (.returned (.slice (some ⟨w3.heap.size,0,none⟩) 1 1)) (w3.alloc (.cells (evc e) 48)):=by
 have c4:Chg [] w3 (w3.alloc (.cells (evc e) 48)):=(Chg.refl [] w3).alloc _
 have hb:(w3.alloc (.cells (evc e) 48)).heap[w3.heap.size]? =some (.cells (evc e) 48 (0,0)):=by simp
 have hs:=hc.size
 refine ⟨_,_,rfl,⟨some ⟨w3.heap.size,0,none⟩,1,rfl,⟨rfl,.inr ⟨w3.heap.size,0,_,_,(0,0),rfl,hb,by rw [Qc6];rfl⟩⟩,fun _ a ha=>?_⟩,(h3.keep0 c4).mas,hc.trans (c4.mono (by simp)),hF⟩
 cases ha
 exact ⟨hs,fun hm=>Nat.lt_irrefl _ (h3.oldAll _ hm)⟩
theorem DoTo.after {W w w1:World} {c:Cg} {mp:Nat} {RA:Option Addr} {rcap:Nat} {Ft Ft1:List Nat} {r:Mac×List Ev} {e:Ending} {w':World} (hc:Chg Ft w w1) (hs:∀b∈Ft1,b∈Ft∨w.heap.size≤b) (h:DoTo W w1 c mp RA rcap Ft1 r e w'):DoTo W w c mp RA rcap Ft r e w':=by
 obtain ⟨v,Ft',he,⟨A,cap,h1,h2,h3⟩,hm,hch,hF⟩:=h
 have hz:=hc.size
 refine ⟨v,Ft',he,⟨A,cap,h1,h2,fun h0 a ha=>⟨Nat.le_trans hz (h3 h0 a ha).1,(h3 h0 a ha).2⟩⟩,hm,hc.trans' hch hs,fun b hb=>?_⟩
 rcases hF b hb with h4|h4
 ·exact hs b h4
 ·exact .inr (Nat.le_trans hz h4)
section
variable {W w:World} {c:Cg} {mp cb sy n:Nat} {F:List Nat} {ks:List Kp} {RA:Option Addr} {rcap:Nat} {M:Mac} {cur:Nat→List Int} (h:MaM W w c mp cb sy F ks RA rcap M) (hI:MI c n M cur) (hn:n+1≤1000000000) (hT:Tabs W)
include h hI hn hT
theorem apush (a:Ac):Calls Tryz.prog 62 #[.pointer (some ⟨mp,0,none⟩),.agg (acc a)] w (DoTo W w c mp RA rcap (mp::cb::(Xn ks++F)) (pushA c M a.li)):=by
 have ha1:(w.alloc (.cells (acc a) 44)).heap[w.heap.size]? =some (.cells (acc a) 44 (0,0)):=by simp
 have c1:Chg [] w (w.alloc (.cells (acc a) 44)):=(Chg.refl [] w).alloc _
 have H1:=Vh (h.keep0 c1)
 have hm1:=H1.out.own
 have C1:=Vh c1
 have HI:=Vh hI
 have HT:=Vh hT
 have HN:=Vh hn
 have HCL:=Vh h.cl
 have HPF:=Vh (show ∀b∈mp::cb::(Xn ks++F),b≠w.heap.size from fun b hb e=>by have:=h.oldAll b hb;omega)
 clear h hI hT hn c1
 unfold pushA
 by_cases he:(pushM c M.S a.li).2.e=0
 ·have te:((pushM c M.S a.li).2.e !=0)=false:=by simp [he]
  rw [if_pos he]
  clear he
  go_enter Tryz.func62,Tryz.ntmps62
  go_wp2_with fail
  generalize hw1:w.alloc (.cells (acc a) 44)=w1 at *
  generalize hp1:w.heap.size=p1 at *
  clear hw1 hp1
  have om1:=old hm1
  have oa1:=old ha1
  go_still_tail 6,(by kernel_rfl)
  try refine wpStill_nil ?_
  change wpList _ _ _ _ _ w1.drew
  have C2:=Vh (C1.out.trans ((Chg.refl [] w1).drew))
  have H2:=Vh (H1.out.keep0 ((Chg.refl [] w1).drew))
  have ha2:w1.drew.heap[p1]? =some (.cells (acc a) 44 (0,0)):=ha1
  clear ha1 hm1 H1 C1 om1 oa1
  generalize w1.drew=w2 at *
  go_wp2_with fail
  refine (upush H2.out.sys HI.out.inv Cz11 HI.out.roomy HT.out.1 a.li).mono ?_
  rintro e w3 ⟨rfl,hd⟩
  obtain ⟨F3,h3,c3,hF3⟩:=H2.out.sysTo hd
  have H3:=Vh h3
  have C3:=Vh c3
  have HF3:=Vh hF3
  have ha3:=c3.keep ha2 (fun hm=>HPF.out _ hm rfl)
  have oa3:=old ha3
  clear hd h3 c3 hF3 ha2
  go_wp2_with (go_at_call 94;refine (mpushed a.li _).mono ?_;rintro e w4 ⟨rfl,rfl⟩)
  go_ret
  exact DoTo.from C2.out (H3.out.tellOne C3.out HF3.out _)
 ·have te:((pushM c M.S a.li).2.e !=0)=true:=by simpa using he
  rw [if_neg he]
  clear he
  go_enter Tryz.func62,Tryz.ntmps62
  go_wp2_with fail
  generalize hw1:w.alloc (.cells (acc a) 44)=w1 at *
  generalize hp1:w.heap.size=p1 at *
  clear hw1 hp1
  have om1:=old hm1
  have oa1:=old ha1
  go_still_tail 6,(by kernel_rfl)
  try refine wpStill_nil ?_
  change wpList _ _ _ _ _ w1.drew
  have C2:=Vh (C1.out.trans ((Chg.refl [] w1).drew))
  have H2:=Vh (H1.out.keep0 ((Chg.refl [] w1).drew))
  have ha2:w1.drew.heap[p1]? =some (.cells (acc a) 44 (0,0)):=ha1
  clear ha1 hm1 H1 C1 om1 oa1
  generalize w1.drew=w2 at *
  go_wp2_with fail
  refine (upush H2.out.sys HI.out.inv Cz11 HI.out.roomy HT.out.1 a.li).mono ?_
  rintro e w3 ⟨rfl,hd⟩
  have HD:=Vh (H2.out.sysDo hd)
  clear hd
  go_wp2_with fail
  go_ret
  exact DoTo.from C2.out HD.out
theorem adrop (a:Ac):Calls Tryz.prog 64 #[.pointer (some ⟨mp,0,none⟩),.agg (acc a)] w (DoTo W w c mp RA rcap (mp::cb::(Xn ks++F)) (dropA c M a.li)):=by
 have ha1:(w.alloc (.cells (acc a) 44)).heap[w.heap.size]? =some (.cells (acc a) 44 (0,0)):=by simp
 have c1:Chg [] w (w.alloc (.cells (acc a) 44)):=(Chg.refl [] w).alloc _
 have H1:=Vh (h.keep0 c1)
 have hm1:=H1.out.own
 have C1:=Vh c1
 have HI:=Vh hI
 have HT:=Vh hT
 have HN:=Vh hn
 have HCL:=Vh h.cl
 have HPF:=Vh (show ∀b∈mp::cb::(Xn ks++F),b≠w.heap.size from fun b hb e=>by have:=h.oldAll b hb;omega)
 clear h hI hT hn c1
 unfold dropA
 by_cases he:(dropM c M.S a.li).2.e=0
 ·have te:((dropM c M.S a.li).2.e !=0)=false:=by simp [he]
  cases hnw:newerB c M.S a.li
  ·rw [if_neg (fun e=>by cases e.2)]
   rw [newer_ent] at hnw
   clear he
   go_enter Tryz.func64,Tryz.ntmps64
   go_wp2_with fail
   generalize hw1:w.alloc (.cells (acc a) 44)=w1 at *
   generalize hp1:w.heap.size=p1 at *
   clear hw1 hp1
   have om1:=old hm1
   have oa1:=old ha1
   go_still_tail 6,(by kernel_rfl)
   try refine wpStill_nil ?_
   change wpList _ _ _ _ _ w1.drew
   have C2:=Vh (C1.out.trans ((Chg.refl [] w1).drew))
   have H2:=Vh (H1.out.keep0 ((Chg.refl [] w1).drew))
   have ha2:w1.drew.heap[p1]? =some (.cells (acc a) 44 (0,0)):=ha1
   clear ha1 hm1 H1 C1 om1 oa1
   generalize w1.drew=w2 at *
   go_wp2_with (go_at_call 47;refine (mentry H2.out.sys a.li).mono ?_;rintro e w3 ⟨rfl,k3⟩;have H3:=Vh (H2.out.keep0 k3);have C3:=Vh (C2.out.trans k3);have ha3:=k3.keep ha2 Vn;have hm3:=H3.out.own;have hf3:=ec_field (entA c M.S a.li) w3;have om3:=old hm3;have oa3:=old ha3;clear k3 H2 C2 ha2)
   go_still_tail 6,(by kernel_rfl)
   try refine wpStill_nil ?_
   change wpList _ _ _ _ _ w3.drew
   have C4:=Vh (C3.out.trans ((Chg.refl [] w3).drew))
   have H4:=Vh (H3.out.keep0 ((Chg.refl [] w3).drew))
   have ha4:w3.drew.heap[p1]? =some (.cells (acc a) 44 (0,0)):=ha3
   clear ha3 hm3 H3 C3 om3 oa3 hf3
   generalize w3.drew=w4 at *
   go_wp2_with fail
   refine (udrop H4.out.sys HI.out.inv Cz11 HI.out.roomy HT.out.1 a.li).mono ?_
   rintro e w5 ⟨rfl,hd⟩
   have HD:=Vh (H4.out.sysDo hd)
   clear hd
   go_wp2_with fail
   go_ret
   exact DoTo.from C4.out HD.out
  ·rw [if_pos ⟨he,rfl⟩]
   rw [newer_ent] at hnw
   clear he
   go_enter Tryz.func64,Tryz.ntmps64
   go_wp2_with fail
   generalize hw1:w.alloc (.cells (acc a) 44)=w1 at *
   generalize hp1:w.heap.size=p1 at *
   clear hw1 hp1
   have om1:=old hm1
   have oa1:=old ha1
   go_still_tail 6,(by kernel_rfl)
   try refine wpStill_nil ?_
   change wpList _ _ _ _ _ w1.drew
   have C2:=Vh (C1.out.trans ((Chg.refl [] w1).drew))
   have H2:=Vh (H1.out.keep0 ((Chg.refl [] w1).drew))
   have ha2:w1.drew.heap[p1]? =some (.cells (acc a) 44 (0,0)):=ha1
   clear ha1 hm1 H1 C1 om1 oa1
   generalize w1.drew=w2 at *
   go_wp2_with (go_at_call 47;refine (mentry H2.out.sys a.li).mono ?_;rintro e w3 ⟨rfl,k3⟩;have H3:=Vh (H2.out.keep0 k3);have C3:=Vh (C2.out.trans k3);have ha3:=k3.keep ha2 Vn;have hm3:=H3.out.own;have hf3:=ec_field (entA c M.S a.li) w3;have om3:=old hm3;have oa3:=old ha3;clear k3 H2 C2 ha2)
   go_still_tail 6,(by kernel_rfl)
   try refine wpStill_nil ?_
   change wpList _ _ _ _ _ w3.drew
   have C4:=Vh (C3.out.trans ((Chg.refl [] w3).drew))
   have H4:=Vh (H3.out.keep0 ((Chg.refl [] w3).drew))
   have ha4:w3.drew.heap[p1]? =some (.cells (acc a) 44 (0,0)):=ha3
   clear ha3 hm3 H3 C3 om3 oa3 hf3
   generalize w3.drew=w4 at *
   go_wp2_with fail
   refine (udrop H4.out.sys HI.out.inv Cz11 HI.out.roomy HT.out.1 a.li).mono ?_
   rintro e w5 ⟨rfl,hd⟩
   obtain ⟨F3,h3,c3,hF3⟩:=H4.out.sysTo hd
   have H3:=Vh h3
   have C3:=Vh c3
   have HF3:=Vh hF3
   have ha5:=c3.keep ha4 (fun hm=>HPF.out _ hm rfl)
   have oa5:=old ha5
   clear hd h3 c3 hF3 ha4
   go_wp2_with (go_at_call 94;refine (mpushed a.li _).mono ?_;rintro e w6 ⟨rfl,rfl⟩)
   go_ret
   exact DoTo.from C4.out (H3.out.tellOne C3.out HF3.out _)
 ·have te:((dropM c M.S a.li).2.e !=0)=true:=by simpa using he
  rw [if_neg (fun e=>he e.1)]
  clear he
  have hnw:(entA c M.S a.li).di=(entA c M.S a.li).di:=rfl
  go_enter Tryz.func64,Tryz.ntmps64
  go_wp2_with fail
  generalize hw1:w.alloc (.cells (acc a) 44)=w1 at *
  generalize hp1:w.heap.size=p1 at *
  clear hw1 hp1
  have om1:=old hm1
  have oa1:=old ha1
  go_still_tail 6,(by kernel_rfl)
  try refine wpStill_nil ?_
  change wpList _ _ _ _ _ w1.drew
  have C2:=Vh (C1.out.trans ((Chg.refl [] w1).drew))
  have H2:=Vh (H1.out.keep0 ((Chg.refl [] w1).drew))
  have ha2:w1.drew.heap[p1]? =some (.cells (acc a) 44 (0,0)):=ha1
  clear ha1 hm1 H1 C1 om1 oa1
  generalize w1.drew=w2 at *
  go_wp2_with (go_at_call 47;refine (mentry H2.out.sys a.li).mono ?_;rintro e w3 ⟨rfl,k3⟩;have H3:=Vh (H2.out.keep0 k3);have C3:=Vh (C2.out.trans k3);have ha3:=k3.keep ha2 Vn;have hm3:=H3.out.own;have hf3:=ec_field (entA c M.S a.li) w3;have om3:=old hm3;have oa3:=old ha3;clear k3 H2 C2 ha2)
  go_still_tail 6,(by kernel_rfl)
  try refine wpStill_nil ?_
  change wpList _ _ _ _ _ w3.drew
  have C4:=Vh (C3.out.trans ((Chg.refl [] w3).drew))
  have H4:=Vh (H3.out.keep0 ((Chg.refl [] w3).drew))
  have ha4:w3.drew.heap[p1]? =some (.cells (acc a) 44 (0,0)):=ha3
  clear ha3 hm3 H3 C3 om3 oa3 hf3
  generalize w3.drew=w4 at *
  go_wp2_with fail
  refine (udrop H4.out.sys HI.out.inv Cz11 HI.out.roomy HT.out.1 a.li).mono ?_
  rintro e w5 ⟨rfl,hd⟩
  have HD:=Vh (H4.out.sysDo hd)
  clear hd
  go_wp2_with fail
  go_ret
  exact DoTo.from C4.out HD.out
theorem ahear (a:Ac):Calls Tryz.prog 61 #[.pointer (some ⟨mp,0,none⟩),.agg (acc a)] w (DoTo W w c mp RA rcap (mp::cb::(Xn ks++F)) (hearA c M a.co)):=by
 have ha1:(w.alloc (.cells (acc a) 44)).heap[w.heap.size]? =some (.cells (acc a) 44 (0,0)):=by simp
 have c1:Chg [] w (w.alloc (.cells (acc a) 44)):=(Chg.refl [] w).alloc _
 have H1:=Vh (h.keep0 c1)
 have hm1:=H1.out.own
 have C1:=Vh c1
 have HI:=Vh hI
 have HT:=Vh hT
 have HN:=Vh hn
 have HCL:=Vh h.cl
 have HPF:=Vh (show ∀b∈mp::cb::(Xn ks++F),b≠w.heap.size from fun b hb e=>by have:=h.oldAll b hb;omega)
 clear h hI hT hn c1
 have HDM:=Vh (show mp∉F from H1.out.dm)
 have HPF1:=Vh (show w.heap.size∉F from fun hm=>HPF.out _ (by simp [hm]) rfl)
 have HOF:=Vh (show ∀b∈F,b<w.heap.size from fun b hb=>by have:=HPF.out b (by simp [hb]);have:=H1.out.oldF b hb;simp at this;omega)
 unfold hearA
 by_cases he:(hearM c M.S a.co).2.e=0
 ·have te:((hearM c M.S a.co).2.e !=0)=false:=by simp [he]
  rw [if_pos he]
  clear he
  cases hc:Qfp M a.co with
  |none=>
   have HNO:=Vh (core_no HCL.out hc)
   clear hc
   have HU:=Vh (fun (w':World) (hc:Chg [] (w.alloc (.cells (acc a) 44)) w')=>(uhear (H1.out.keep0 hc).sys HI.out.inv Cz11 HI.out.roomy HT.out a.co).mono fun e w3 hd=>(⟨hd.1,(show ∃F4,Chg F w' w3∧F4=F from hd.2.elim fun F4 h4=>⟨F,h4.2.1,rfl⟩).elim fun _ h=>h.1,(H1.out.keep0 hc).sysTo hd.2⟩:e=.returned (.tuple #[.agg (msc (hearM c M.S a.co).2.m),.int .i64 (hearM c M.S a.co).2.e])∧Chg F w' w3∧∃F',MaM W w3 c mp cb sy F' ks RA rcap (M.sys (hearM c M.S a.co).1)∧Chg (mp::cb::(Xn ks++F)) w' w3∧∀b∈mp::cb::(Xn ks++F'),b∈mp::cb::(Xn ks++F)∨w'.heap.size≤b))
   generalize hR:hearM c M.S a.co=R at *
   clear hR
   go_enter Tryz.func61,Tryz.ntmps61
   go_upto_region 1 with fail
   generalize hw1:w.alloc (.cells (acc a) 44)=w1 at *
   generalize hp1:w.heap.size=p1 at *
   clear hw1 hp1
   have om1:=old hm1
   have oa1:=old ha1
   have HA:=Vh ((HU.out (w1.alloc (.cells (msc msZ) 196)).drew Cz6).mono fun e w3 hd=>(⟨hd,by
    have k3:=hd.2.1
    exact k3.keep (x:=.cells (msc msZ) 196 (0,0)) (MapKept.heap_alloc w1 _).1 (fun hm=>by have:=HOF.out _ hm;have:=oa1.lt;omega)⟩:_∧w3.heap[w1.heap.size]? =some (.cells (msc msZ) 196 (0,0))))
   go_region_held3 (fun w'=>w'.heap[mp]? =some (.cells (mcc sy cb c.co RA M.rc.length rcap M.fa) 91 (0,0))∧w'.heap[p1]? =some (.cells (acc a) 44 (0,0)))
    (exact ⟨Chg.keep (l:=F) (w:=w1) Cz2 hm1 HDM.out,Chg.keep (l:=F) (w:=w1) Cz2 ha1 HPF1.out⟩)
    (first |(go_at_call 91;with_reducible refine HA.out.mono ?_;rintro e w3 ⟨⟨rfl,k3,F3,h3,c3,hF3⟩,z3⟩;have T3:Chg F w1 w3:=Chg.trans Cz2 k3)|(go_at_call 91;with_reducible refine (HU.out w1.drew Cz6).mono ?_;rintro e w3 ⟨rfl,k3,F3,h3,c3,hF3⟩;have T3:Chg F w1 w3:=Chg.trans Cz2 k3))
   ·have h5:∃F5,MaM W (w3.alloc (.cells (msc R.2.m) 196)) c mp cb sy F5 ks RA rcap (M.sys R.1)∧Chg (mp::cb::(Xn ks++F)) w (w3.alloc (.cells (msc R.2.m) 196))∧(∀b∈mp::cb::(Xn ks++F5),b∈mp::cb::(Xn ks++F)∨w.heap.size≤b)∧(w3.alloc (.cells (msc R.2.m) 196)).heap[w3.heap.size]? =some (.cells (msc R.2.m) 196 (0,0))∧(w3.alloc (.cells (msc R.2.m) 196)).heap[p1]? =some (.cells (acc a) 44 (0,0)):=by
     have c5:Chg [] w3 (w3.alloc (.cells (msc R.2.m) 196)):=(Chg.refl [] w3).alloc _
     have s1:=C1.out.size
     refine ⟨F3,h3.keep0 c5,(C1.out.mono (by simp)).trans ((((Chg.refl [] w1).drew.mono (by simp)).trans c3).trans (c5.mono (by simp))),fun b hb=>?_,(MapKept.heap_alloc w3 _).1,c5.keep (T3.keep ha1 HPF1.out) (by simp)⟩
     rcases hF3 b hb with h4|h4
     ·exact .inl h4
     ·exact .inr (Nat.le_trans s1 h4)
    generalize hw5:w3.alloc (.cells (msc R.2.m) 196)=w5 at *
    generalize hq5:w3.heap.size=q5 at *
    obtain ⟨F5,h5,c5,s5,hq,ha5⟩:=h5
    have H5:=Vh h5
    have C5:=Vh c5
    have S5:=Vh s5
    have oq5:=old hq
    have oa5:=old ha5
    have hm5:=h5.own
    have om5:=old hm5
    clear hw5 hq5 h5 c5 s5 h3 c3 hF3 T3 k3 HU HA H1 C1 hm1 ha1 om1 oa1
    go_wp2_with fail
    go_still_tail 5,(by kernel_rfl)
    still_call (Qe8 (H5.out.keep0 ((Chg.refl [] w5).drew)) HNO.out)
    repeat still_step
    try refine wpStill_nil ?_
    change wpList _ _ _ _ _ w5.drew
    have C6:=Vh (C5.out.trans ((Chg.refl _ w5).drew))
    have H6:=Vh (H5.out.keep0 ((Chg.refl [] w5).drew))
    have S6:=Vh S5.out
    clear H5 C5 hq ha5 oq5 oa5 hm5 om5
    generalize w5.drew=w6 at *
    go_wp2_with fail
    refine (chear_nil R.2.m w6).mono ?_
    rintro e w7 ⟨rfl,k7⟩
    go_wp2_with fail
    go_ret
    exact DoTo.after C6.out S6.out (H6.out.stayDo k7)
   ·have h5:∃F5,MaM W (putRow w3 w1.heap.size 0 (msc R.2.m)) c mp cb sy F5 ks RA rcap (M.sys R.1)∧Chg (mp::cb::(Xn ks++F)) w (putRow w3 w1.heap.size 0 (msc R.2.m))∧(∀b∈mp::cb::(Xn ks++F5),b∈mp::cb::(Xn ks++F)∨w.heap.size≤b)∧(putRow w3 w1.heap.size 0 (msc R.2.m)).heap[w1.heap.size]? =some (.cells (msc R.2.m) 196 (0,0))∧(putRow w3 w1.heap.size 0 (msc R.2.m)).heap[p1]? =some (.cells (acc a) 44 (0,0)):=by
     have c5:Chg [w1.heap.size] w3 (putRow w3 w1.heap.size 0 (msc R.2.m)):=(Chg.refl [w1.heap.size] w3).putRow _ _ _ (.inl (by simp))
     have s1:=C1.out.size
     have o1:=H1.out.oldAll
     have sz:((w1.alloc (.cells (msc msZ) 196)).drew).heap.size=w1.heap.size+1:=by simp
     have wz:W.heap.size≤w1.heap.size:=H1.out.allChg.size
     refine ⟨F3,h3.keepL c5 ?_ (by simpa using wz) ?_,Chg.trans' ((C1.out.mono (by simp)).trans ((((Chg.refl [] w1).alloc _).drew.mono (by simp)).trans c3)) c5 ?_,fun b hb=>?_,?_,c5.keep (T3.keep ha1 HPF1.out) ?_⟩
     ·intro b hb
      simp only [List.mem_singleton] at hb
      subst hb
      intro hm
      rcases hF3 _ hm with h4|h4
      ·have:=o1 _ h4;omega
      ·omega
     ·intro h0 x hx hm
      simp only [List.mem_singleton] at hm
      have hr:=h3.rcs
      have hr1:=H1.out.rcs
      rcases hr1.2 with h2|⟨b,o,cs,t,f,h2,h6,_⟩
      ·have:0<M.rc.length:=h0
       omega
      ·rw [hx] at h2
       cases h2
       have:=Xe h6
       simp only at hm
       omega
     ·intro b hb
      simp only [List.mem_singleton] at hb
      subst hb
      exact .inr s1
     ·rcases hF3 b hb with h4|h4
      ·exact .inl h4
      ·exact .inr (by omega)
     ·rw [Qc _ _ _ _ _ (by rw [z3,Qd,QH,QH];rfl),if_pos rfl,z3]
      exact Qg _ _ _ _ (by simp)
     ·simp only [List.mem_singleton]
      have:=oa1.lt
      omega
    generalize hw5:putRow w3 w1.heap.size 0 (msc R.2.m)=w5 at *
    generalize hq5:w1.heap.size=q5 at *
    obtain ⟨F5,h5,c5,s5,hq,ha5⟩:=h5
    have H5:=Vh h5
    have C5:=Vh c5
    have S5:=Vh s5
    have oq5:=old hq
    have oa5:=old ha5
    have hm5:=h5.own
    have om5:=old hm5
    clear hw5 hq5 h5 c5 s5 h3 c3 hF3 T3 k3 HU HA H1 C1 hm1 ha1 om1 oa1 z3
    go_wp2_with fail
    go_still_tail 5,(by kernel_rfl)
    still_call (Qe8 (H5.out.keep0 ((Chg.refl [] w5).drew)) HNO.out)
    repeat still_step
    try refine wpStill_nil ?_
    change wpList _ _ _ _ _ w5.drew
    have C6:=Vh (C5.out.trans ((Chg.refl _ w5).drew))
    have H6:=Vh (H5.out.keep0 ((Chg.refl [] w5).drew))
    have S6:=Vh S5.out
    clear H5 C5 hq ha5 oq5 oa5 hm5 om5
    generalize w5.drew=w6 at *
    go_wp2_with fail
    refine (chear_nil R.2.m w6).mono ?_
    rintro e w7 ⟨rfl,k7⟩
    go_wp2_with fail
    go_ret
    exact DoTo.after C6.out S6.out (H6.out.stayDo k7)
  |some Q=>
   obtain ⟨j,hj,hjc,hQ,hid⟩:=HI.out.at hc
   obtain ⟨p,Q',hp,hQ'⟩:=H1.out.kAt hjc
   rw [hQ] at hQ'
   cases hQ'
   clear hc
   have HQ:=Vh hQ
   have HP:=Vh hp
   have HJ:=Vh hj
   clear hQ hp hid hjc hj
   have HU:=Vh (fun (w':World) (hc:Chg [] (w.alloc (.cells (acc a) 44)) w')=>(uhear (H1.out.keep0 hc).sys HI.out.inv Cz11 HI.out.roomy HT.out a.co).mono fun e w3 hd=>(⟨hd.1,(show ∃F4,Chg F w' w3∧F4=F from hd.2.elim fun F4 h4=>⟨F,h4.2.1,rfl⟩).elim fun _ h=>h.1,(H1.out.keep0 hc).sysTo hd.2⟩:e=.returned (.tuple #[.agg (msc (hearM c M.S a.co).2.m),.int .i64 (hearM c M.S a.co).2.e])∧Chg F w' w3∧∃F',MaM W w3 c mp cb sy F' ks RA rcap (M.sys (hearM c M.S a.co).1)∧Chg (mp::cb::(Xn ks++F)) w' w3∧∀b∈mp::cb::(Xn ks++F'),b∈mp::cb::(Xn ks++F)∨w'.heap.size≤b))
   generalize hR:hearM c M.S a.co=R at *
   clear hR
   go_enter Tryz.func61,Tryz.ntmps61
   go_upto_region 1 with fail
   generalize hw1:w.alloc (.cells (acc a) 44)=w1 at *
   generalize hp1:w.heap.size=p1 at *
   clear hw1 hp1
   have om1:=old hm1
   have oa1:=old ha1
   have HA:=Vh ((HU.out (w1.alloc (.cells (msc msZ) 196)).drew Cz6).mono fun e w3 hd=>(⟨hd,by
    have k3:=hd.2.1
    exact k3.keep (x:=.cells (msc msZ) 196 (0,0)) (MapKept.heap_alloc w1 _).1 (fun hm=>by have:=HOF.out _ hm;have:=oa1.lt;omega)⟩:_∧w3.heap[w1.heap.size]? =some (.cells (msc msZ) 196 (0,0))))
   go_region_held3 (fun w'=>w'.heap[mp]? =some (.cells (mcc sy cb c.co RA M.rc.length rcap M.fa) 91 (0,0))∧w'.heap[p1]? =some (.cells (acc a) 44 (0,0)))
    (exact ⟨Chg.keep (l:=F) (w:=w1) Cz2 hm1 HDM.out,Chg.keep (l:=F) (w:=w1) Cz2 ha1 HPF1.out⟩)
    (first |(go_at_call 91;with_reducible refine HA.out.mono ?_;rintro e w3 ⟨⟨rfl,k3,F3,h3,c3,hF3⟩,z3⟩;have T3:Chg F w1 w3:=Chg.trans Cz2 k3)|(go_at_call 91;with_reducible refine (HU.out w1.drew Cz6).mono ?_;rintro e w3 ⟨rfl,k3,F3,h3,c3,hF3⟩;have T3:Chg F w1 w3:=Chg.trans Cz2 k3))
   ·have h5:∃F5,MaM W (w3.alloc (.cells (msc R.2.m) 196)) c mp cb sy F5 ks RA rcap (M.sys R.1)∧Chg (mp::cb::(Xn ks++F)) w (w3.alloc (.cells (msc R.2.m) 196))∧(∀b∈mp::cb::(Xn ks++F5),b∈mp::cb::(Xn ks++F)∨w.heap.size≤b)∧(w3.alloc (.cells (msc R.2.m) 196)).heap[w3.heap.size]? =some (.cells (msc R.2.m) 196 (0,0))∧(w3.alloc (.cells (msc R.2.m) 196)).heap[p1]? =some (.cells (acc a) 44 (0,0)):=by
     have c5:Chg [] w3 (w3.alloc (.cells (msc R.2.m) 196)):=(Chg.refl [] w3).alloc _
     have s1:=C1.out.size
     refine ⟨F3,h3.keep0 c5,(C1.out.mono (by simp)).trans ((((Chg.refl [] w1).drew.mono (by simp)).trans c3).trans (c5.mono (by simp))),fun b hb=>?_,(MapKept.heap_alloc w3 _).1,c5.keep (T3.keep ha1 HPF1.out) (by simp)⟩
     rcases hF3 b hb with h4|h4
     ·exact .inl h4
     ·exact .inr (Nat.le_trans s1 h4)
    generalize hw5:w3.alloc (.cells (msc R.2.m) 196)=w5 at *
    generalize hq5:w3.heap.size=q5 at *
    obtain ⟨F5,h5,c5,s5,hq,ha5⟩:=h5
    have H5:=Vh h5
    have C5:=Vh c5
    have S5:=Vh s5
    have oq5:=old hq
    have oa5:=old ha5
    have hm5:=h5.own
    have om5:=old hm5
    clear hw5 hq5 h5 c5 s5 h3 c3 hF3 T3 k3 HU HA H1 C1 hm1 ha1 om1 oa1
    go_wp2_with fail
    go_still_tail 5,(by kernel_rfl)
    rw [HJ.out]
    still_call (Qe9 (H5.out.keep0 ((Chg.refl [] w5).drew)) HP.out)
    repeat still_step
    try refine wpStill_nil ?_
    change wpList _ _ _ _ _ w5.drew
    have C6:=Vh (C5.out.trans ((Chg.refl _ w5).drew))
    have H6:=Vh (H5.out.keep0 ((Chg.refl [] w5).drew))
    have S6:=Vh S5.out
    clear H5 C5 hq ha5 oq5 oa5 hm5 om5
    generalize w5.drew=w6 at *
    go_wp2_with fail
    have hp:=HP.out
    have hQ:=HQ.out
    have cs6:=H6.out.cs hp hQ
    refine (dhear cs6.co cs6.old R.2.m).mono ?_
    rintro e w7 hd
    have HD:=Vh (H6.out.told hp hQ (cs6.ofCo hd))
    obtain ⟨v,rfl,_⟩:=hd
    clear cs6
    go_wp2_with fail
    go_ret
    rw [HJ.out]
    exact DoTo.after C6.out S6.out HD.out
   ·have h5:∃F5,MaM W (putRow w3 w1.heap.size 0 (msc R.2.m)) c mp cb sy F5 ks RA rcap (M.sys R.1)∧Chg (mp::cb::(Xn ks++F)) w (putRow w3 w1.heap.size 0 (msc R.2.m))∧(∀b∈mp::cb::(Xn ks++F5),b∈mp::cb::(Xn ks++F)∨w.heap.size≤b)∧(putRow w3 w1.heap.size 0 (msc R.2.m)).heap[w1.heap.size]? =some (.cells (msc R.2.m) 196 (0,0))∧(putRow w3 w1.heap.size 0 (msc R.2.m)).heap[p1]? =some (.cells (acc a) 44 (0,0)):=by
     have c5:Chg [w1.heap.size] w3 (putRow w3 w1.heap.size 0 (msc R.2.m)):=(Chg.refl [w1.heap.size] w3).putRow _ _ _ (.inl (by simp))
     have s1:=C1.out.size
     have o1:=H1.out.oldAll
     have sz:((w1.alloc (.cells (msc msZ) 196)).drew).heap.size=w1.heap.size+1:=by simp
     have wz:W.heap.size≤w1.heap.size:=H1.out.allChg.size
     refine ⟨F3,h3.keepL c5 ?_ (by simpa using wz) ?_,Chg.trans' ((C1.out.mono (by simp)).trans ((((Chg.refl [] w1).alloc _).drew.mono (by simp)).trans c3)) c5 ?_,fun b hb=>?_,?_,c5.keep (T3.keep ha1 HPF1.out) ?_⟩
     ·intro b hb
      simp only [List.mem_singleton] at hb
      subst hb
      intro hm
      rcases hF3 _ hm with h4|h4
      ·have:=o1 _ h4;omega
      ·omega
     ·intro h0 x hx hm
      simp only [List.mem_singleton] at hm
      have hr:=h3.rcs
      have hr1:=H1.out.rcs
      rcases hr1.2 with h2|⟨b,o,cs,t,f,h2,h6,_⟩
      ·have:0<M.rc.length:=h0
       omega
      ·rw [hx] at h2
       cases h2
       have:=Xe h6
       simp only at hm
       omega
     ·intro b hb
      simp only [List.mem_singleton] at hb
      subst hb
      exact .inr s1
     ·rcases hF3 b hb with h4|h4
      ·exact .inl h4
      ·exact .inr (by omega)
     ·rw [Qc _ _ _ _ _ (by rw [z3,Qd,QH,QH];rfl),if_pos rfl,z3]
      exact Qg _ _ _ _ (by simp)
     ·simp only [List.mem_singleton]
      have:=oa1.lt
      omega
    generalize hw5:putRow w3 w1.heap.size 0 (msc R.2.m)=w5 at *
    generalize hq5:w1.heap.size=q5 at *
    obtain ⟨F5,h5,c5,s5,hq,ha5⟩:=h5
    have H5:=Vh h5
    have C5:=Vh c5
    have S5:=Vh s5
    have oq5:=old hq
    have oa5:=old ha5
    have hm5:=h5.own
    have om5:=old hm5
    clear hw5 hq5 h5 c5 s5 h3 c3 hF3 T3 k3 HU HA H1 C1 hm1 ha1 om1 oa1 z3
    go_wp2_with fail
    go_still_tail 5,(by kernel_rfl)
    rw [HJ.out]
    still_call (Qe9 (H5.out.keep0 ((Chg.refl [] w5).drew)) HP.out)
    repeat still_step
    try refine wpStill_nil ?_
    change wpList _ _ _ _ _ w5.drew
    have C6:=Vh (C5.out.trans ((Chg.refl _ w5).drew))
    have H6:=Vh (H5.out.keep0 ((Chg.refl [] w5).drew))
    have S6:=Vh S5.out
    clear H5 C5 hq ha5 oq5 oa5 hm5 om5
    generalize w5.drew=w6 at *
    go_wp2_with fail
    have hp:=HP.out
    have hQ:=HQ.out
    have cs6:=H6.out.cs hp hQ
    refine (dhear cs6.co cs6.old R.2.m).mono ?_
    rintro e w7 hd
    have HD:=Vh (H6.out.told hp hQ (cs6.ofCo hd))
    obtain ⟨v,rfl,_⟩:=hd
    clear cs6
    go_wp2_with fail
    go_ret
    rw [HJ.out]
    exact DoTo.after C6.out S6.out HD.out
 ·have te:((hearM c M.S a.co).2.e !=0)=true:=by simpa using he
  rw [if_neg he]
  clear he
  have HU:=Vh (fun (w':World) (hc:Chg [] (w.alloc (.cells (acc a) 44)) w')=>(uhear (H1.out.keep0 hc).sys HI.out.inv Cz11 HI.out.roomy HT.out a.co).mono fun e w3 hd=>(⟨hd.1,(show ∃F4,Chg F w' w3∧F4=F from hd.2.elim fun F4 h4=>⟨F,h4.2.1,rfl⟩).elim fun _ h=>h.1,(H1.out.keep0 hc).sysTo hd.2⟩:e=.returned (.tuple #[.agg (msc (hearM c M.S a.co).2.m),.int .i64 (hearM c M.S a.co).2.e])∧Chg F w' w3∧∃F',MaM W w3 c mp cb sy F' ks RA rcap (M.sys (hearM c M.S a.co).1)∧Chg (mp::cb::(Xn ks++F)) w' w3∧∀b∈mp::cb::(Xn ks++F'),b∈mp::cb::(Xn ks++F)∨w'.heap.size≤b))
  generalize hR:hearM c M.S a.co=R at *
  clear hR
  go_enter Tryz.func61,Tryz.ntmps61
  go_upto_region 1 with fail
  generalize hw1:w.alloc (.cells (acc a) 44)=w1 at *
  generalize hp1:w.heap.size=p1 at *
  clear hw1 hp1
  have om1:=old hm1
  have oa1:=old ha1
  have HA:=Vh ((HU.out (w1.alloc (.cells (msc msZ) 196)).drew Cz6).mono fun e w3 hd=>(⟨hd,by
   have k3:=hd.2.1
   exact k3.keep (x:=.cells (msc msZ) 196 (0,0)) (MapKept.heap_alloc w1 _).1 (fun hm=>by have:=HOF.out _ hm;have:=oa1.lt;omega)⟩:_∧w3.heap[w1.heap.size]? =some (.cells (msc msZ) 196 (0,0))))
  go_region_held3 (fun w'=>w'.heap[mp]? =some (.cells (mcc sy cb c.co RA M.rc.length rcap M.fa) 91 (0,0))∧w'.heap[p1]? =some (.cells (acc a) 44 (0,0)))
   (exact ⟨Chg.keep (l:=F) (w:=w1) Cz2 hm1 HDM.out,Chg.keep (l:=F) (w:=w1) Cz2 ha1 HPF1.out⟩)
   (first |(go_at_call 91;with_reducible refine HA.out.mono ?_;rintro e w3 ⟨⟨rfl,k3,F3,h3,c3,hF3⟩,z3⟩;have T3:Chg F w1 w3:=Chg.trans Cz2 k3)|(go_at_call 91;with_reducible refine (HU.out w1.drew Cz6).mono ?_;rintro e w3 ⟨rfl,k3,F3,h3,c3,hF3⟩;have T3:Chg F w1 w3:=Chg.trans Cz2 k3))
  ·have h5:∃F5,MaM W (w3.alloc (.cells (msc R.2.m) 196)) c mp cb sy F5 ks RA rcap (M.sys R.1)∧Chg (mp::cb::(Xn ks++F)) w (w3.alloc (.cells (msc R.2.m) 196))∧(∀b∈mp::cb::(Xn ks++F5),b∈mp::cb::(Xn ks++F)∨w.heap.size≤b)∧(w3.alloc (.cells (msc R.2.m) 196)).heap[w3.heap.size]? =some (.cells (msc R.2.m) 196 (0,0))∧(w3.alloc (.cells (msc R.2.m) 196)).heap[p1]? =some (.cells (acc a) 44 (0,0)):=by
    have c5:Chg [] w3 (w3.alloc (.cells (msc R.2.m) 196)):=(Chg.refl [] w3).alloc _
    have s1:=C1.out.size
    refine ⟨F3,h3.keep0 c5,(C1.out.mono (by simp)).trans ((((Chg.refl [] w1).drew.mono (by simp)).trans c3).trans (c5.mono (by simp))),fun b hb=>?_,(MapKept.heap_alloc w3 _).1,c5.keep (T3.keep ha1 HPF1.out) (by simp)⟩
    rcases hF3 b hb with h4|h4
    ·exact .inl h4
    ·exact .inr (Nat.le_trans s1 h4)
   generalize hw5:w3.alloc (.cells (msc R.2.m) 196)=w5 at *
   generalize hq5:w3.heap.size=q5 at *
   obtain ⟨F5,h5,c5,s5,hq,ha5⟩:=h5
   have H5:=Vh h5
   have C5:=Vh c5
   have S5:=Vh s5
   have oq5:=old hq
   have oa5:=old ha5
   have hm5:=h5.own
   have om5:=old hm5
   clear hw5 hq5 h5 c5 s5 h3 c3 hF3 T3 k3 HU HA H1 C1 hm1 ha1 om1 oa1
   go_wp2_with fail
   go_ret
   exact ⟨_,_,rfl,EvsAt.nil ..,H5.out.mas,C5.out,S5.out⟩
  ·have h5:∃F5,MaM W (putRow w3 w1.heap.size 0 (msc R.2.m)) c mp cb sy F5 ks RA rcap (M.sys R.1)∧Chg (mp::cb::(Xn ks++F)) w (putRow w3 w1.heap.size 0 (msc R.2.m))∧(∀b∈mp::cb::(Xn ks++F5),b∈mp::cb::(Xn ks++F)∨w.heap.size≤b)∧(putRow w3 w1.heap.size 0 (msc R.2.m)).heap[w1.heap.size]? =some (.cells (msc R.2.m) 196 (0,0))∧(putRow w3 w1.heap.size 0 (msc R.2.m)).heap[p1]? =some (.cells (acc a) 44 (0,0)):=by
    have c5:Chg [w1.heap.size] w3 (putRow w3 w1.heap.size 0 (msc R.2.m)):=(Chg.refl [w1.heap.size] w3).putRow _ _ _ (.inl (by simp))
    have s1:=C1.out.size
    have o1:=H1.out.oldAll
    have sz:((w1.alloc (.cells (msc msZ) 196)).drew).heap.size=w1.heap.size+1:=by simp
    have wz:W.heap.size≤w1.heap.size:=H1.out.allChg.size
    refine ⟨F3,h3.keepL c5 ?_ (by simpa using wz) ?_,Chg.trans' ((C1.out.mono (by simp)).trans ((((Chg.refl [] w1).alloc _).drew.mono (by simp)).trans c3)) c5 ?_,fun b hb=>?_,?_,c5.keep (T3.keep ha1 HPF1.out) ?_⟩
    ·intro b hb
     simp only [List.mem_singleton] at hb
     subst hb
     intro hm
     rcases hF3 _ hm with h4|h4
     ·have:=o1 _ h4;omega
     ·omega
    ·intro h0 x hx hm
     simp only [List.mem_singleton] at hm
     have hr:=h3.rcs
     have hr1:=H1.out.rcs
     rcases hr1.2 with h2|⟨b,o,cs,t,f,h2,h6,_⟩
     ·have:0<M.rc.length:=h0
      omega
     ·rw [hx] at h2
      cases h2
      have:=Xe h6
      simp only at hm
      omega
    ·intro b hb
     simp only [List.mem_singleton] at hb
     subst hb
     exact .inr s1
    ·rcases hF3 b hb with h4|h4
     ·exact .inl h4
     ·exact .inr (by omega)
    ·rw [Qc _ _ _ _ _ (by rw [z3,Qd,QH,QH];rfl),if_pos rfl,z3]
     exact Qg _ _ _ _ (by simp)
    ·simp only [List.mem_singleton]
     have:=oa1.lt
     omega
   generalize hw5:putRow w3 w1.heap.size 0 (msc R.2.m)=w5 at *
   generalize hq5:w1.heap.size=q5 at *
   obtain ⟨F5,h5,c5,s5,hq,ha5⟩:=h5
   have H5:=Vh h5
   have C5:=Vh c5
   have S5:=Vh s5
   have oq5:=old hq
   have oa5:=old ha5
   have hm5:=h5.own
   have om5:=old hm5
   clear hw5 hq5 h5 c5 s5 h3 c3 hF3 T3 k3 HU HA H1 C1 hm1 ha1 om1 oa1 z3
   go_wp2_with fail
   go_ret
   exact ⟨_,_,rfl,EvsAt.nil ..,H5.out.mas,C5.out,S5.out⟩
end
end
end Go.Proofs.YtcgjofbkcgedfaaGreatDoor
namespace Go.Proofs.YtcgjofbkcgedfaaGreatDoor
open Go.RowKit
set_option linter.unusedVariables false
set_option maxHeartbeats 1000000
section
structure Rf where
 A:Option Addr
 n:Nat
 c:Nat
def Rf.val (r:Rf):Value:=.slice r.A r.n r.c
def re (r:Rf):List Value:=[.slice r.A r.n r.c]
theorem re_len (r:Rf):(re r).length=1:=rfl
theorem cat_re (fs:List Rf):cat re fs=fs.map Rf.val:=by
 induction fs with
 |nil=>rfl
 |cons x xs ih=>rw [XY,ih];rfl
theorem sq_re_at {fs:List Rf} {r:List Value} {i:Nat} {x:Rf} (h:fs[i]? =some x):(sq re fs r)[i]? =some (.slice x.A x.n x.c):=by
 obtain ⟨h1,e1⟩:=Vg h
 unfold sq
 rw [cat_re,List.getElem?_toArray,List.getElem?_append_left (by simpa using h1),List.getElem?_map,h]
 rfl
theorem sq_re_set {fs:List Rf} {r:List Value} {i:Nat} (h:i<fs.length) (A:Option Addr) (n c:Nat):(sq re fs r).setIfInBounds i (.slice A n c)=sq re (fs.set i ⟨A,n,c⟩) r:=by
 unfold sq
 rw [cat_re,cat_re]
 simp [h,List.map_set,Rf.val]
end
section
set_option maxRecDepth 100000
attribute [local go_sem ↓] Qv QF Qy QO QE Qs Qk Qh heap_alloc Ql heap_setCell Qc Yq Xu Xg ZP YD XA YC Xz Yi Yh Yd Ye Yf Xh XW XV XU Xj YK YL YJ YG YH YX YT XE YV YW YU YS Qbz J9 Qca Qcb Qb9 Qbv Qby Qbw Qbx
attribute [local go_sem] Qb Qa Qd Qi Qe Qg Qf QB Qw QN QL QM Q5 QK QA Qr QD QW QJ Qq QC Qp Qj Qo Qn Yc Xf YB Q8 Xv Xw JT Yg ZZ ZY ZX ZW Yn Ym Yj Yk Yl QG ZQ Xi ZR XT Zc XB YI XC Qad Xa Z9 Z8 Z7 Z6 YP YQ YO YM YN Z3 QY QZ QX QP Qt Zk Qbt ZU JX Qb8 JY Y2 Xd
attribute [local simp ↓] Qk Qh heap_alloc Ql heap_setCell Qc
attribute [local simp] Qb Qa Qd Qi Qe Qg Qf Qr Qj Qo Qn Q8 QG Zc QY QZ QX QP Qt QD ZU Xd
attribute [local go_sem ↓] Qh
theorem pk_info:(Tryz.prog.info? 62).map (fun i=>(i.zero,i.size,i.bytes))=some (some (.pointer none),1,8):=by kernel_rfl
def ptO:Option Kp→Value
 |none=>.pointer none
 |some p=>.pointer (some ⟨p.kb,0,none⟩)
def pkO (x:Option Kp):List Value:=[ptO x]
theorem pkO_len (x:Option Kp):(pkO x).length=1:=rfl
theorem Qin (l:List (Option Kp)):cat pkO l=l.map ptO:=by
 induction l with
 |nil=>rfl
 |cons x xs ih=>rw [XY,ih];rfl
theorem cat_pke (l:List Kp):cat pke l=l.map (fun p=>ptO (some p)):=by
 induction l with
 |nil=>rfl
 |cons x xs ih=>rw [XY,ih];rfl
def Qdo (ks:List Kp) (n:Nat):List (Option Kp):=ks.map some++List.replicate (n-ks.length) none
theorem fillK_full {ks:List Kp} {n:Nat} (h:ks.length=n):sq pkO (Qdo ks n) []=sq pke ks []:=by
 unfold sq Qdo
 rw [h,Nat.sub_self,List.replicate_zero,List.append_nil,List.append_nil,List.append_nil,Qin,cat_pke,List.map_map]
 rfl
theorem fillK_set {ks:List Kp} {n:Nat} (h:ks.length<n) (p:Kp):(sq pkO (Qdo ks n) []).setIfInBounds ks.length (.pointer (some ⟨p.kb,0,none⟩))=sq pkO (Qdo (ks++[p]) n) []:=by
 unfold sq Qdo
 obtain ⟨m,hm⟩:∃m,n-ks.length=m+1:=⟨n-ks.length-1,by omega⟩
 have hm2:n-(ks.length+1)=m:=by omega
 rw [hm,List.length_append,List.length_singleton,hm2,List.append_nil,List.append_nil,Qin,Qin,List.setIfInBounds_toArray]
 congr 1
 rw [List.map_append,List.map_append,List.map_append,List.map_append,List.set_append_right _ _ (by simp)]
 simp [List.replicate_succ,ptO]
theorem fillK_size {ks:List Kp} {n:Nat} (h:ks.length≤n):(sq pkO (Qdo ks n) []).size=n:=by
 unfold sq Qdo
 rw [Qin]
 simp
 omega
theorem run_make_pk (w:World) (n:Nat) (hn:n≤64):mkR Tryz.prog 84 (.int .i64 n) (.int .i64 n) w=.ok (.slice (some ⟨w.heap.size,0,none⟩) n n) (w.alloc (.cells (sq pkO (Qdo [] n) []) 62)):=by
 obtain ⟨i0,hi0,hz0,hz1,hz2⟩:=info_parts pk_info
 have:=run_make (P:=Tryz.prog) w 84 62 i0 _ Tryz.underlying84 hi0 hz0 .i64 .i64 n n (by omega) (by omega) (by rw [hz2];omega) (by omega)
 simp only [Int.toNat_natCast,hz1] at this
 rw [show Qdo [] n=List.replicate n none by simp [Qdo],←made_sq pkO_len (by decide)]
 exact this
structure NewK (w w':World) (cb room:Nat) (ks:List Kp) (us:List (List Int)):Prop where
 co:∀(j:Nat) (p:Kp) (u:List Int),ks[j]? =some p→us[j]? =some u→Cor w' p.kb p.pb p.qb (co0 (j:Int) room u)
 km:∀(j:Nat) (p:Kp),ks[j]? =some p→cb∉p.foot∧∀b∈p.foot,w.heap.size≤b∧b<w'.heap.size
 kd:∀(i j:Nat) (p q:Kp),i≠j→ks[i]? =some p→ks[j]? =some q→∀b∈p.foot,b∉q.foot
theorem NewK.keep {w w' w2:World} {cb room:Nat} {ks:List Kp} {us:List (List Int)} (h:NewK w w' cb room ks us) {l:List Nat} (hc:Chg l w' w2) (hl:∀(j:Nat) (p:Kp),ks[j]? =some p→∀b∈p.foot,b∉l):NewK w w2 cb room ks us where
 co:=fun j p u hp hu=>(h.co j p u hp hu).keep hc (hl j p hp _ (by simp [Kp.foot])) (hl j p hp _ (by simp [Kp.foot])) (hl j p hp _ (by simp [Kp.foot]))
 km:=fun j p hp=>⟨(h.km j p hp).1,fun b hb=>⟨((h.km j p hp).2 b hb).1,Nat.lt_of_lt_of_le ((h.km j p hp).2 b hb).2 hc.size⟩⟩
 kd:=h.kd
theorem NewK.snoc {w w':World} {cb room:Nat} {ks:List Kp} {us:List (List Int)} {u:List Int} {kb pb qb:Nat} {w2:World} (h:NewK w w' cb room ks us) (hc:Chg [] w' w2) (hw:w.heap.size≤w'.heap.size) (hcb:cb<w'.heap.size) (hu:us[ks.length]? =some u)
 (hC:Cor w2 kb pb qb (co0 (ks.length:Int) room u)) (h1:w'.heap.size≤kb) (h2:w'.heap.size≤pb) (h3:w'.heap.size≤qb):NewK w w2 cb room (ks++[⟨kb,pb,qb⟩]) us:=by
 have h0:=h.keep hc (by simp)
 have hnew:∀b∈(⟨kb,pb,qb⟩:Kp).foot,w'.heap.size≤b∧b<w2.heap.size:=by
  intro b hb
  simp only [Kp.foot,List.mem_cons,Vn,or_false] at hb
  rcases hb with rfl|rfl|rfl
  ·exact ⟨h1,hC.oldk.lt⟩
  ·exact ⟨h2,hC.oldp.lt⟩
  ·exact ⟨h3,hC.oldq.lt⟩
 have hat:∀(j:Nat) (p:Kp),(ks++[⟨kb,pb,qb⟩])[j]? =some p→ks[j]? =some p∨(j=ks.length∧p=⟨kb,pb,qb⟩):=by
  intro j p hp
  by_cases hj:j<ks.length
  ·rw [List.getElem?_append_left hj] at hp;exact .inl hp
  ·have hj2:j=ks.length:=by
    have:=(Vg hp).1
    simp at this;omega
   subst hj2
   rw [List.getElem?_concat_length] at hp
   exact .inr ⟨rfl,(Option.some.inj hp).symm⟩
 refine ⟨fun j p v hp hv=>?_,fun j p hp=>?_,fun i j p q hne hp hq b hb=>?_⟩
 ·rcases hat j p hp with h4|⟨rfl,rfl⟩
  ·exact h0.co j p v h4 hv
  ·rw [hu] at hv
   cases hv
   exact hC
 ·rcases hat j p hp with h4|⟨rfl,rfl⟩
  ·exact h0.km j p h4
  ·refine ⟨fun hm=>by have:=hnew _ hm;omega,fun b hb=>?_⟩
   have:=hnew b hb
   omega
 ·rcases hat i p hp with h4|⟨e4,rfl⟩
  ·have o1:=((h.km i p h4).2 b hb).2
   rcases hat j q hq with h5|⟨_,rfl⟩
   ·exact h.kd i j p q hne h4 h5 b hb
   ·intro hm
    have:=hnew b hm
    omega
  ·have o1:=hnew b hb
   rcases hat j q hq with h5|⟨e5,_⟩
   ·intro hm
    have:=((h.km j q h5).2 b hm).2
    omega
   ·omega
set_option maxHeartbeats 8000000 in
theorem mcores {w:World} {PA:Option Addr} {n pcap room:Nat} {fs:List Rf} {us:List (List Int)} (hs:Sl w 1 PA n (cat re fs)) (hf:fs.length=n) (hu:us.length=n)
 (hin:∀(i:Nat) (r:Rf) (u:List Int),fs[i]? =some r→us[i]? =some u→r.n=u.length∧Sl w 1 r.A r.n (u.map (Value.int .u64))∧u.length≤4096∧∀x∈u,0≤x∧x<18446744073709551616) (h1:1≤room) (h2:room≤16) (hn:n≤8):
 Calls Tryz.prog 34 #[.int .i64 (room:Int),.slice PA n pcap] w fun e w'=>∃(cb:Nat) (ks:List Kp),e=.returned (.tuple #[.slice (some ⟨cb,0,none⟩) n n,.int .i64 0])∧w.heap.size≤cb∧w'.heap[cb]? =some (.cells (sq pke ks []) 62 (0,0))∧ks.length=n∧NewK w w' cb room ks us∧Chg [] w w':=by
 have hmk:=run_make_pk w n (by omega)
 have c1:Chg [] w (w.alloc (.cells (sq pkO (Qdo [] n) []) 62)):=(Chg.refl [] w).alloc _
 have hb1:(w.alloc (.cells (sq pkO (Qdo [] n) []) 62)).heap[w.heap.size]? =some (.cells (sq pkO (Qdo [] n) []) 62 (0,0)):=(MapKept.heap_alloc w _).1
 have HS:=Vh hs
 have HF:=Vh hf
 have HU:=Vh hu
 have HIN:=Vh hin
 have H1:=Vh h1
 have H2:=Vh h2
 have HN:=Vh hn
 have gN:(n:Int)≤8:=by omega
 have HC1:=Vh c1
 have HB1:=Vh hb1
 clear hs hf hu hin h1 h2 hn c1 hb1
 go_enter Tryz.func34,Tryz.ntmps34
 go_wp2_with fail
 generalize w.alloc (.cells (sq pkO (Qdo [] n) []) 62)=w1 at *
 generalize hp:w.heap.size=p at *
 have HP:=Vh hp
 clear hp
 go_loopw [7,8,9,10,16] (fun _ _ _ _ i wr=>∃ks:List Kp,ks.length≤n∧i=.int .i64 (ks.length:Int)∧wr.heap[p]? =some (.cells (sq pkO (Qdo ks n) []) 62 (0,0))∧NewK w wr p room ks us∧Chg [] w wr) (fun _ _ _ _ i _=>n-(intOf i).toNat)
 case atStart=>exact ⟨[],by simp,rfl,HB1.out,⟨fun j p u hp=>by simp at hp,fun j p hp=>by simp at hp,fun i j p q _ hp=>by simp at hp⟩,HC1.out⟩
 case round=>
  obtain ⟨ks,hk,rfl,hb,hnk,hc⟩:=hrel
  have HB:=Vh hb
  have HNK:=Vh hnk
  have HC:=Vh hc
  have HK:=Vh hk
  clear hnk hk hb
  by_cases hlt:ks.length<n
  ·obtain ⟨r,hr⟩:∃r,fs[ks.length]? =some r:=⟨fs[ks.length]'(by rw [HF.out];exact hlt),List.getElem?_eq_getElem _⟩
   obtain ⟨u,hu⟩:∃u,us[ks.length]? =some u:=⟨us[ks.length]'(by rw [HU.out];exact hlt),List.getElem?_eq_getElem _⟩
   obtain ⟨i1,i2,i3,i4⟩:=HIN.out _ r u hr hu
   obtain ⟨b,o,rfl⟩:=HS.out.addr (by omega)
   obtain ⟨cs,t,f,hA,hi,_⟩:=(HS.out.chg hc (by simp)).elem (by omega) hlt (Ju re_len hr)
   have r1:cs[o+ks.length]? =some (.slice r.A r.n r.c):=by have:=hi 0 (by omega);simpa [re] using this
   have HI2:=Vh (i2.chg hc (by simp))
   have HI1:=Vh i1
   have HI3:=Vh i3
   have HI4:=Vh i4
   have HUU:=Vh hu
   have g1:(ks.length:Int)<(n:Int):=by omega
   have g0:(0:Int)≤(ks.length:Int):=by omega
   have HLT:=Vh hlt
   have oA:=old hA
   clear hr hu i1 i2 i3 i4 hi hlt hc
   go_wp2_with fail
   refine (cnew (us:=u) (ks.length:Int) room HI2.out HI1.out.symm (by rw [HI1.out];exact HI3.out) HI4.out ⟨by omega,by have:=HLT.out;have:=HN.out;omega⟩ H1.out H2.out).mono ?_
   rintro e w2 ⟨kb,pb,qb,rfl,k1,k2,k3,c2,hC⟩
   have hb2:=c2.keep HB.out (by simp)
   have ob2:=old hb2
   have op:p<wr.heap.size:=(old HB.out).lt
   have hset:=fillK_set HLT.out ⟨kb,pb,qb⟩
   have hsz:=fillK_size (Nat.le_of_lt HLT.out)
   have HNK2:=Vh (HNK.out.snoc c2 HC.out.size op HUU.out hC k1 k2 k3)
   have HC2:=Vh (HC.out.trans c2)
   have HSET:=Vh hset
   have HB2:=Vh hb2
   have hat:(sq pkO (Qdo ks n) [])[ks.length]? =some (.pointer none):=by
    unfold sq Qdo
    rw [Qin,List.append_nil,List.getElem?_toArray,List.map_append,List.getElem?_append_right (by simp)]
    obtain ⟨m,hm⟩:∃m,n-ks.length=m+1:=⟨n-ks.length-1,by have:=HLT.out;omega⟩
    rw [hm,List.replicate_succ]
    simp [ptO]
   clear c2 hC k1 k2 k3 HNK HC HB hset hA r1 oA
   go_wp2_with fail
   have c3:Chg [p] w2 (w2.setCell ⟨p,ks.length,none⟩ (.pointer (some ⟨kb,0,none⟩))):=(Chg.refl [p] w2).setCell _ _ _ (.inl (by simp))
   go_roundw
   case rel=>
    refine ⟨ks++[⟨kb,pb,qb⟩],by have:=HLT.out;simp;omega,by rw [List.length_append];go_num,?_,HNK2.out.keep c3 (fun j q hq b hb=>?_),HC2.out.trans' c3 (by intro x hx;rw [List.mem_singleton] at hx;right;have:=HP.out;omega)⟩
    ·rw [heap_setCell,if_pos rfl,HB2.out,Qf,HSET.out]
    ·simp only [List.mem_singleton]
     rintro rfl
     exact (HNK2.out.km j q hq).1 hb
   case measure=>have:=HLT.out;simp [intOf];omega
  ·have:ks.length=n:=by have:=HK.out;omega
   have HL:=Vh this
   clear hlt hc
   rw [this]
   clear this
   go_wp2_with fail
   go_ret2
   exact ⟨p,ks,rfl,by have:=HP.out;omega,by rw [←fillK_full HL.out];exact HB.out,HL.out,HNK.out,HC.out⟩
end
section
set_option maxRecDepth 100000
attribute [local go_sem ↓] Qv QF Qy QO QE Qs Qk Qh heap_alloc Ql heap_setCell Qc Yq Xu Xg ZP YD XA YC Xz Yi Yh Yd Ye Yf Xh XW XV XU Xj YK YL YJ YG YH YX YT XE YV YW YU YS Qbz J9 Qca Qcb Qb9 Qbv Qby Qbw Qbx
attribute [local go_sem] Qb Qa Qd Qi Qe Qg Qf QB Qw QN QL QM Q5 QK QA Qr QD QW QJ Qq QC Qp Qj Qo Qn Yc Xf YB Q8 Xv Xw JT Yg ZZ ZY ZX ZW Yn Ym Yj Yk Yl QG ZQ Xi ZR XT Zc XB YI XC Qad Xa Z9 Z8 Z7 Z6 YP YQ YO YM YN Z3 QY QZ QX QP Qt Zk Qbt ZU JX Qb8 JY Y2 Xd
attribute [local simp ↓] Qk Qh heap_alloc Ql heap_setCell Qc
attribute [local simp] Qb Qa Qd Qi Qe Qg Qf Qr Qj Qo Qn Q8 QG Zc QY QZ QX QP Qt QD ZU Xd
attribute [local go_sem ↓] Qh
theorem Cor.stop {w w':World} {kb pb qb:Nat} {Q:Co} (h:Cor w kb pb qb Q) (hc:Chg [kb] w w') (ho:w'.heap[kb]? =some (.cells (coc Q.id false Q.rg pb Q.pr.length Q.pc qb Q.wt) 136 (0,0))):Cor w' kb pb qb (Qez Q):=
 ⟨ho,h.steps.keep hc (by simpa using h.kp.symm),h.buf.keep hc (by simpa using h.kq.symm),h.kp,h.kq,h.pq,⟨h.ok.h8,h.ok.pc,h.ok.np,h.ok.pr,h.ok.wt,h.ok.id,h.ok.pos.stop⟩⟩
theorem MaM.ownTo {W w w':World} {c:Cg} {mp cb sy:Nat} {F:List Nat} {ks:List Kp} {RA:Option Addr} {rcap:Nat} {M:Mac} (h:MaM W w c mp cb sy F ks RA rcap M) {fa:Nat} (hc:Chg [mp] w w') (ho:w'.heap[mp]? =some (.cells (mcc sy cb c.co RA M.rc.length rcap fa) 91 (0,0))):
 MaM W w' c mp cb sy F ks RA rcap {M with fa:=fa}:=by
 have hW:=h.new mp (by simp)
 refine {own:=ho,cors:=hc.keep h.cors (by simpa using h.ne.symm),kl:=h.kl,cl:=h.cl,sys:=Mem.keepL h.sys hc (by simpa using h.dm) (by simpa using hW),co:=fun j p Q hp hQ=>?_,rcs:=h.rcs.keep0 hc (fun h0 a ha e=>?_),ne:=h.ne,km:=h.km,kd:=h.kd,dm:=h.dm,dc:=h.dc,dk:=h.dk,rd:=h.rd,new:=h.new}
 ·have hm:=(h.km j p hp).1
  simp only [Kp.foot,List.mem_cons,Vn,or_false,not_or] at hm
  exact (h.co j p Q hp hQ).keep hc (by simpa using fun e=>hm.1 e.symm) (by simpa using fun e=>hm.2.1 e.symm) (by simpa using fun e=>hm.2.2 e.symm)
 ·simp only [List.mem_singleton] at e
  exact h.rd h0 a ha (by simp [e])
theorem MaM.renew {W w w7 w':World} {c:Cg} {mp cb sy:Nat} {F:List Nat} {ks:List Kp} {RA:Option Addr} {rcap:Nat} {M:Mac} (h:MaM W w c mp cb sy F ks RA rcap M) {cb' room:Nat} {ks':List Kp} {us:List (List Int)} {cs':List Co} (hk:NewK w w7 cb' room ks' us) (hcb:w.heap.size≤cb')
 (hb:w7.heap[cb']? =some (.cells (sq pke ks' []) 62 (0,0))) (hl:ks'.length=c.co) (hc7:Chg [] w w7) (hc:Chg [mp] w7 w') (ho:w'.heap[mp]? =some (.cells (mcc sy cb' c.co RA M.rc.length rcap M.fa) 91 (0,0)))
 (hcs:cs'.length=c.co) (hus:∀(j:Nat) (Q:Co),cs'[j]? =some Q→∃u,us[j]? =some u∧Q=co0 (j:Int) room u):MaM W w' c mp cb' sy F ks' RA rcap {M with cs:=cs'}:=by
 have hW:=h.allChg.size
 have om:=(old h.own).lt
 have hkk:=hk.keep hc (fun j p hp b hb e=>by
  simp only [List.mem_singleton] at e
  have:=((hk.km j p hp).2 b hb).1
  omega)
 have hold:∀b,w.heap.size≤b→b∉F:=fun b h1 h2=>by have:=h.oldF b h2;omega
 have h7:=h.keep0 hc7
 refine {own:=ho,cors:=hc.keep hb (by simp only [List.mem_singleton];omega),kl:=hl,cl:=hcs,sys:=Mem.keepL h7.sys hc (by simpa using h.dm) (by simpa using h.new mp (by simp)),co:=fun j p Q hp hQ=>?_,rcs:=h7.rcs.keep0 hc (fun h0 a ha e=>?_),ne:=by omega,km:=fun j p hp=>⟨fun hm=>?_,(hk.km j p hp).1⟩,kd:=hk.kd,dm:=h.dm,dc:=hold _ hcb,dk:=fun j p hp b hb=>hold b ((hk.km j p hp).2 b hb).1,rd:=fun h0 a ha=>?_,new:=fun b hb=>?_}
 ·obtain ⟨u,hu,rfl⟩:=hus j Q hQ
  exact hkk.co j p u hp hu
 ·simp only [List.mem_singleton] at e
  exact h.rd h0 a ha (by simp [e])
 ·have:=((hk.km j p hp).2 mp hm).1
  omega
 ·have h0':0<M.rc.length:=h0
  have h1:=h.rd h0 a ha
  have ho:a.block<w.heap.size:=by
   rcases h.rcs.2 with h2|⟨b,o,cs,t,f,h2,h3,_⟩
   ·omega
   ·rw [ha] at h2
    cases h2
    exact Xe h3
  simp only [List.mem_cons,List.mem_append,not_or] at h1 ⊢
  refine ⟨h1.1,by omega,fun hm=>?_,h1.2.2.2⟩
  obtain ⟨j,p,hp,hb⟩:=Y6.1 hm
  have:=((hk.km j p hp).2 _ hb).1
  omega
 ·simp only [List.mem_cons] at hb
  rcases hb with rfl|rfl|hb
  ·exact h.new _ (by simp)
  ·omega
  ·obtain ⟨j,p,hp,hb⟩:=Y6.1 hb
   have:=((hk.km j p hp).2 _ hb).1
   omega
theorem MaM.oneCore {W w w':World} {c:Cg} {mp cb sy:Nat} {F:List Nat} {ks:List Kp} {RA:Option Addr} {rcap:Nat} {M:Mac} (h:MaM W w c mp cb sy F ks RA rcap M) {j:Nat} {p:Kp} {Q Q':Co} (hp:ks[j]? =some p) (hQ:M.cs[j]? =some Q) (hc:Chg [p.kb] w w') (hC:Cor w' p.kb p.pb p.qb Q'):MaM W w' c mp cb sy F ks RA rcap {M with cs:=M.cs.set j Q'}:=by
 have hcs:=(h.cs hp hQ).core (w':=w') (Q':=Q') (hc.mono (by simp)) hC
 have:=(h.coreTo hp hQ hcs (hc.mono (by simp)) (fun b hb=>.inl hb)).1
 exact this
def csF (c:Cg) (rc:List Int) (i:Nat):List Co:=(List.range c.co).map fun k=>if k=0 then co0 0 c.st rc else if k≤i then Qez (co0 (k:Int) c.st []) else co0 (k:Int) c.st []
theorem csF_end (c:Cg) (rc:List Int) (h:1≤c.co):csF c rc (c.co-1)=(List.range c.co).map (Qil c rc):=by
 unfold csF Qil
 apply List.map_congr_left
 intro k hk
 rw [List.mem_range] at hk
 split
 ·rfl
 ·rw [if_pos (by omega)]
theorem csF_next (c:Cg) (rc:List Int) (i:Nat) (hi:i+1<c.co):(csF c rc i)[i+1]? =some (co0 ((i+1:Nat):Int) c.st [])∧(csF c rc i).set (i+1) (Qez (co0 ((i+1:Nat):Int) c.st []))=csF c rc (i+1):=by
 refine ⟨?_,?_⟩
 ·unfold csF
  rw [List.getElem?_map,List.getElem?_range hi]
  simp only [Option.map_some]
  rw [if_neg (by omega),if_neg (by omega)]
 ·apply List.ext_getElem?
  intro k
  rw [List.getElem?_set]
  unfold csF
  split
  ·rename_i e
   subst e
   simp only [List.length_map,List.length_range,hi,if_true,List.getElem?_map,List.getElem?_range hi,Option.map_some]
   simp
  ·rename_i e
   rw [List.getElem?_map,List.getElem?_map]
   cases hk:(List.range c.co)[k]? with
   |none=>rfl
   |some x=>
    have hx:x=k:=by
     obtain ⟨h1,h2⟩:=Vg hk
     simpa using h2.symm
    subst hx
    simp only [Option.map_some,Option.some.injEq]
    split
    ·rfl
    ·split
     ·rename_i h1;rw [if_pos (by omega)]
     ·rename_i h1;rw [if_neg (by omega)]
theorem rf_info:(Tryz.prog.info? 26).map (fun i=>(i.zero,i.size,i.bytes))=some (some (.slice none 0 0),1,24):=by kernel_rfl
theorem run_make_rf (w:World) (n:Nat) (hn:n≤64):mkR Tryz.prog 25 (.int .i64 n) (.int .i64 n) w=.ok (.slice (some ⟨w.heap.size,0,none⟩) n n) (w.alloc (.cells (sq re (List.replicate n ⟨none,0,0⟩) []) 26)):=by
 obtain ⟨i0,hi0,hz0,hz1,hz2⟩:=info_parts rf_info
 have:=run_make (P:=Tryz.prog) w 25 26 i0 _ Tryz.underlying25 hi0 hz0 .i64 .i64 n n (by omega) (by omega) (by rw [hz2];omega) (by omega)
 simp only [Int.toNat_natCast,hz1] at this
 rw [←made_sq re_len (by decide)]
 exact this
theorem mcc_setFa (sy cb n:Nat) (RA:Option Addr) (rn rc fa fa':Nat):(mcc sy cb n RA rn rc fa).setIfInBounds 3 (.int .i64 (fa':Int))=mcc sy cb n RA rn rc fa':=rfl
theorem mcc_setCs (sy cb n:Nat) (RA:Option Addr) (rn rc fa cb':Nat):(mcc sy cb n RA rn rc fa).setIfInBounds 1 (.slice (some ⟨cb',0,none⟩) n n)=mcc sy cb' n RA rn rc fa:=rfl
theorem cgfield_st (c:Cg) (w:World):(Instr.field 23 (.agg c.cells) 6).run Tryz.prog w=.ok (.int .i64 c.st) w:=by kernel_rfl
attribute [local go_sem ↓] cgfield_st Zi
attribute [local go_sem] ZI
theorem eltPk:Elt Tryz.prog 84 62 1 8 (.pointer none) pke where
 slice:=Tryz.underlying84
 info:=pk_info
 zero:=rfl
 zone:=by intro v hv;simp [Value.cells] at hv;subst hv;rfl
 pos:=by omega
 len:=pke_len
 one:=pke_one
set_option maxHeartbeats 8000000 in
theorem afail {W w:World} {c:Cg} {mp cb sy n:Nat} {F:List Nat} {ks:List Kp} {RA:Option Addr} {rcap:Nat} {M:Mac} {cur:Nat→List Int} (h:MaM W w c mp cb sy F ks RA rcap M) (hI:MI c n M cur) (hn:n+1≤1000000000) (hT:Tabs W) (a:Ac):
 Calls Tryz.prog 66 #[.pointer (some ⟨mp,0,none⟩),.agg (acc a)] w (DoTo W w c mp RA rcap (mp::cb::(Xn ks++F)) (failA c M)):=by
 have c1:Chg [] w (w.alloc (.cells (acc a) 44)):=(Chg.refl [] w).alloc _
 have H1:=Vh (h.keep0 c1)
 have hm1:=H1.out.own
 have C1:=Vh c1
 have HI:=Vh hI
 have HFA:=Vh (show M.fa+1≤1000000001 by have:=hI.fa;omega)
 have gfa:(M.fa:Int)≤1000000000:=by have:=hI.fa;omega
 have gfa0:(0:Int)≤(M.fa:Int):=by omega
 clear h hI hT hn c1
 go_enter Tryz.func66,Tryz.ntmps66
 go_upto_region 1 with fail
 generalize hw1:w.alloc (.cells (acc a) 44)=w1 at *
 generalize hp1:w.heap.size=p1 at *
 clear hw1 hp1
 have om1:=old hm1
 go_upto_region 2 with fail
 have c2:Chg [mp] w1 (w1.setCell ⟨mp,3,none⟩ (.int .i64 ((M.fa:Int)+1))):=(Chg.refl [mp] w1).setCell _ _ _ (.inl (by simp))
 have hm2:(w1.setCell ⟨mp,3,none⟩ (.int .i64 ((M.fa:Int)+1))).heap[mp]? =some (.cells (mcc sy cb c.co RA M.rc.length rcap (M.fa+1)) 91 (0,0)):=by
  rw [heap_setCell,if_pos rfl,hm1,Qf,show ((M.fa:Int)+1)=((M.fa+1:Nat):Int) by omega,mcc_setFa]
 have H2:=Vh (H1.out.ownTo c2 hm2)
 have C2:=Vh (show Chg (mp::cb::(Xn ks++F)) w (w1.setCell ⟨mp,3,none⟩ (.int .i64 ((M.fa:Int)+1))) from (C1.out.mono (by simp)).trans (c2.mono (by simp)))
 generalize w1.setCell ⟨mp,3,none⟩ (.int .i64 ((M.fa:Int)+1))=w2 at *
 clear c2 hm1 om1 H1 C1
 have om2:=old hm2
 go_wp2_with fail
 refine (yfail H2.out.sys HI.out.inv).mono ?_
 rintro e w3 ⟨rfl,hd⟩
 obtain ⟨F3,h3,c3,hF3⟩:=H2.out.sysTo hd
 have H3:=Vh h3
 have C3:=Vh (C2.out.trans c3)
 have s2:=C2.out.size
 have HF3:=Vh (show ∀b∈mp::cb::(Xn ks++F3),b∈mp::cb::(Xn ks++F)∨w.heap.size≤b from fun b hb=>(hF3 b hb).imp id (fun h4=>Nat.le_trans s2 h4))
 have hm3:w3.heap[mp]? =some (.cells (mcc sy cb c.co RA M.rc.length rcap (M.fa+1)) 91 (0,0)):=h3.own
 have HCO:=Vh HI.out.inv.ok
 have hmk:=run_make_rf w3 c.co (by have:=HCO.out.co8;omega)
 have gco1:1≤(c.co:Int):=by have:=HCO.out.co1;omega
 have gco8:(c.co:Int)≤8:=by have:=HCO.out.co8;omega
 clear hd h3 c3 hF3 C2 s2 hm2 om2 H2
 have om3:=old hm3
 go_upto_region 4 with fail
 have c4:Chg [] w3 (w3.alloc (.cells (sq re (List.replicate c.co ⟨none,0,0⟩) []) 26)):=(Chg.refl [] w3).alloc _
 have hp4:(w3.alloc (.cells (sq re (List.replicate c.co ⟨none,0,0⟩) []) 26)).heap[w3.heap.size]? =some (.cells (sq re (List.replicate c.co ⟨none,0,0⟩) []) 26 (0,0)):=(MapKept.heap_alloc w3 _).1
 have HP4:=Vh (show ∀b∈mp::cb::(Xn ks++F3),b≠w3.heap.size from fun b hb e=>by have:=H3.out.oldAll b hb;omega)
 have HRP:=Vh (show 0<M.rc.length→∀a:Addr,RA=some a→a.block≠w3.heap.size from fun h0 a ha e=>by
  rcases H3.out.rcs.2 with h2|⟨b,o,cs,t,f,h2,h5,_⟩
  ·have:M.rc.length=0:=h2
   omega
  ·rw [ha] at h2
   cases h2
   have:=Xe h5
   simp only at e
   omega)
 have H4:=Vh (H3.out.keep0 c4)
 have C4:=Vh (C3.out.trans (c4.mono (by simp)))
 have HSZ:=Vh (show w.heap.size≤w3.heap.size from C3.out.size)
 have HWZ:=Vh (show W.heap.size≤w3.heap.size from H3.out.allChg.size)
 have hm4:(w3.alloc (.cells (sq re (List.replicate c.co ⟨none,0,0⟩) []) 26)).heap[mp]? =some (.cells (mcc sy cb c.co RA M.rc.length rcap (M.fa+1)) 91 (0,0)):=H4.out.own
 generalize w3.alloc (.cells (sq re (List.replicate c.co ⟨none,0,0⟩) []) 26)=w4 at *
 generalize w3.heap.size=pp at *
 clear c4 hmk hm3 om3 H3 C3
 have om4:=old hm4
 have op4:=old hp4
 have npm:¬mp=pp:=HP4.out mp (by simp)
 have npm2:¬pp=mp:=fun e=>npm e.symm
 have h0at:(sq re (List.replicate c.co ⟨none,0,0⟩) [])[0]? =some (.slice none 0 0):=by
  have:=sq_re_at (r:=[]) (fs:=List.replicate c.co ⟨none,0,0⟩) (i:=0) (x:=⟨none,0,0⟩) (by rw [List.getElem?_replicate,if_pos (by have:=HCO.out.co1;omega)])
  simpa using this
 go_upto_region 5 with fail
 have c5:Chg [pp] w4 (w4.setCell ⟨pp,0,none⟩ (.slice RA M.rc.length rcap)):=(Chg.refl [pp] w4).setCell _ _ _ (.inl (by simp))
 have hp5:(w4.setCell ⟨pp,0,none⟩ (.slice RA M.rc.length rcap)).heap[pp]? =some (.cells (sq re (⟨RA,M.rc.length,rcap⟩::List.replicate (c.co-1) ⟨none,0,0⟩) []) 26 (0,0)):=by
  rw [heap_setCell,if_pos rfl,hp4,Qf,sq_re_set (by rw [List.length_replicate];have:=HCO.out.co1;omega)]
  obtain ⟨m,hm⟩:∃m,c.co=m+1:=⟨c.co-1,by have:=HCO.out.co1;omega⟩
  rw [hm,List.replicate_succ,List.set_cons_zero,Nat.add_sub_cancel]
 have H5:=Vh (H4.out.keepL c5 (by intro b hb;simp only [List.mem_singleton] at hb;subst hb;exact fun hm=>HP4.out _ hm rfl) (by intro b hb;simp only [List.mem_singleton] at hb;subst hb;exact HWZ.out) (by intro h0 a ha hm;simp only [List.mem_singleton] at hm;exact HRP.out h0 a ha hm))
 have C5:=Vh (C4.out.trans' c5 (by intro x hx;simp only [List.mem_singleton] at hx;subst hx;exact .inr HSZ.out))
 have hm5:(w4.setCell ⟨pp,0,none⟩ (.slice RA M.rc.length rcap)).heap[mp]? =some (.cells (mcc sy cb c.co RA M.rc.length rcap (M.fa+1)) 91 (0,0)):=H5.out.own
 generalize w4.setCell ⟨pp,0,none⟩ (.slice RA M.rc.length rcap)=w5 at *
 clear c5 hm4 om4 hp4 op4 h0at H4 C4
 have om5:=old hm5
 go_wp2_with fail
 refine (J2 H5.out.sys).mono ?_
 rintro e w6 ⟨rfl,k6⟩
 have H6:=Vh (H5.out.keep0 k6)
 have C6:=Vh (C5.out.trans (k6.mono (by simp)))
 have hm6:=k6.keep hm5 (by simp)
 have hp6:=k6.keep hp5 (by simp)
 have hs6:Sl w6 1 (some ⟨pp,0,none⟩) c.co (cat re (⟨RA,M.rc.length,rcap⟩::List.replicate (c.co-1) ⟨none,0,0⟩)):=by
  have hlen:(cat re (⟨RA,M.rc.length,rcap⟩::List.replicate (c.co-1) ⟨none,0,0⟩)).length=c.co*1:=by
   rw [Q7 re_len]
   simp
   have:=HCO.out.co1
   omega
  refine ⟨hlen,.inr ⟨pp,0,_,_,(0,0),rfl,hp6,?_⟩⟩
  rw [X7,List.append_nil,List.drop_zero,List.take_of_length_le (by rw [hlen];exact Nat.le_refl _)]
 have hin:∀(i:Nat) (r:Rf) (u:List Int),((⟨RA,M.rc.length,rcap⟩:Rf)::List.replicate (c.co-1) ⟨none,0,0⟩)[i]? =some r→(M.rc::List.replicate (c.co-1) [])[i]? =some u→r.n=u.length∧Sl w6 1 r.A r.n (u.map (Value.int .u64))∧u.length≤4096∧∀x∈u,0≤x∧x<18446744073709551616:=by
  intro i r u hr hu
  cases i with
  |zero=>
   cases hr;cases hu
   exact ⟨rfl,H6.out.rcs,HI.out.rc.1,HI.out.rc.2⟩
  |succ i=>
   rw [List.getElem?_cons_succ] at hr hu
   have e1:r=⟨none,0,0⟩:=List.eq_of_mem_replicate (List.mem_of_getElem? hr)
   have e2:u=[]:=List.eq_of_mem_replicate (List.mem_of_getElem? hu)
   subst e1 e2
   exact ⟨rfl,⟨rfl,.inl rfl⟩,by simp,by simp⟩
 have HS6:=Vh hs6
 have HIN:=Vh hin
 clear k6 hm5 om5 hp5 hs6 hin H5 C5 hp6
 have om6:=old hm6
 go_wp2_with fail
 refine (mcores (us:=M.rc::List.replicate (c.co-1) []) HS6.out (by rw [List.length_cons,List.length_replicate];have:=HCO.out.co1;omega) (by rw [List.length_cons,List.length_replicate];have:=HCO.out.co1;omega) HIN.out HCO.out.st1 HCO.out.st16 HCO.out.co8).mono ?_
 rintro e w7 ⟨cb2,ks2,rfl,hcb,hb7,hl7,hk7,k7⟩
 have hm7:=k7.keep hm6 (by simp)
 have om7:=old hm7
 have HCB:=Vh hcb
 have HB7:=Vh hb7
 have HL7:=Vh hl7
 have HK7:=Vh hk7
 have K7:=Vh k7
 clear hcb hb7 hl7 hk7 k7 hm6 om6 HS6 HIN
 go_upto_region 6 with fail
 have c8:Chg [mp] w7 (w7.setCell ⟨mp,1,none⟩ (.slice (some ⟨cb2,0,none⟩) c.co c.co)):=(Chg.refl [mp] w7).setCell _ _ _ (.inl (by simp))
 have hm8:(w7.setCell ⟨mp,1,none⟩ (.slice (some ⟨cb2,0,none⟩) c.co c.co)).heap[mp]? =some (.cells (mcc sy cb2 c.co RA M.rc.length rcap (M.fa+1)) 91 (0,0)):=by
  rw [heap_setCell,if_pos rfl,hm7,Qf,mcc_setCs]
 have H8:=Vh (H6.out.renew (cs':=csF c M.rc 0) HK7.out HCB.out HB7.out HL7.out K7.out c8 hm8 (by simp [csF]) (by
  intro j Q hQ
  unfold csF at hQ
  rw [List.getElem?_map] at hQ
  cases hr:(List.range c.co)[j]? with
  |none=>rw [hr] at hQ;cases hQ
  |some x=>
   have hx:x=j∧j<c.co:=by
    obtain ⟨h1,h2⟩:=Vg hr
    exact ⟨by simpa using h2.symm,by simpa using h1⟩
   obtain ⟨rfl,hj⟩:=hx
   rw [hr] at hQ
   simp only [Option.map_some,Option.some.injEq] at hQ
   cases x with
   |zero=>exact ⟨M.rc,rfl,by rw [←hQ];rfl⟩
   |succ x=>
    refine ⟨[],?_,?_⟩
    ·rw [List.getElem?_cons_succ,List.getElem?_replicate,if_pos (by omega)]
    ·rw [←hQ,if_neg (by omega),if_neg (by omega)]))
 have C8:=Vh ((C6.out.trans (K7.out.mono (by simp))).trans (c8.mono (by simp)))
 have HNW:=Vh (show ∀(j:Nat) (p:Kp),ks2[j]? =some p→∀b∈p.foot,w.heap.size≤b from fun j p hp b hb=>Nat.le_trans C6.out.size ((HK7.out.km j p hp).2 b hb).1)
 have HFE:=Vh (show ∀b∈mp::cb2::(Xn ks2++F3),b∈mp::cb::(Xn ks++F)∨w.heap.size≤b from fun b hb=>by
  simp only [List.mem_cons,List.mem_append] at hb
  rcases hb with hb|hb|hb|hb
  ·exact .inl (by simp [hb])
  ·exact .inr (by rw [hb];exact Nat.le_trans C6.out.size HCB.out)
  ·obtain ⟨j,p,hp,hb⟩:=Y6.1 hb
   exact .inr (HNW.out j p hp b hb)
  ·exact HF3.out b (by simp [hb]))
 generalize w7.setCell ⟨mp,1,none⟩ (.slice (some ⟨cb2,0,none⟩) c.co c.co)=w8 at *
 clear c8 hm7 om7 K7 C6 H6 HK7 HB7
 have om8:=old hm8
 obtain ⟨k1,hk1⟩:∃k1,c.co=k1+1:=⟨c.co-1,by have:=HCO.out.co1;omega⟩
 have hsl:=slR_tail (P:=Tryz.prog) eltPk (some ⟨cb2,0,none⟩) k1 c.co (by omega) w8
 rw [←hk1] at hsl
 have HK1:=Vh hk1
 have gk1:(k1:Int)≤7:=by have:=HCO.out.co8;omega
 have gk0:(0:Int)≤(k1:Int):=by omega
 clear hk1
 go_wp2_with fail
 clear hsl
 go_loopw [7,52] (fun _ i wr=>∃j:Nat,j≤k1∧i=.int .i64 (j:Int)∧MaM W wr c mp cb2 sy F3 ks2 RA rcap ⟨failM c M.S,csF c M.rc j,M.rc,M.fa+1⟩∧Chg (mp::cb::(Xn ks++F)) w wr) (fun _ i _=>k1-(intOf i).toNat)
 case atStart=>exact ⟨0,by omega,rfl,H8.out,C8.out⟩
 case round=>
  clear H8 C8
  obtain ⟨j,hj,rfl,hM,hC⟩:=hrel
  have HM:=Vh hM
  have HC:=Vh hC
  have HJ:=Vh hj
  clear hM hC hj
  by_cases hlt:j<k1
  ·have hco2:j+1<c.co:=by have:=HK1.out;omega
   obtain ⟨p,Q,hp,hQ⟩:=HM.out.kAt hco2
   obtain ⟨f1,f2⟩:=csF_next c M.rc j hco2
   have hQe:Q=co0 ((j+1:Nat):Int) c.st []:=by
    have h4:(csF c M.rc j)[j+1]? =some Q:=hQ
    rw [f1] at h4
    exact (Option.some.inj h4).symm
   subst hQe
   have hCr:=HM.out.co (j+1) p _ hp hQ
   have hat:(sq pke ks2 [])[1+j]? =some (.pointer (some ⟨p.kb,0,none⟩)):=by
    have:=JM pke_len hp [] 0 (by omega)
    rw [Nat.add_comm 1 j]
    simpa [pke] using this
   have hcb:=HM.out.cors
   have ocb:=old hcb
   have g0:(0:Int)≤(j:Int):=by omega
   have g1:(j:Int)<(k1:Int):=by omega
   have hbe:Qfu 1 (some ⟨cb2,0,none⟩) c.co=some ⟨cb2,1,none⟩:=by
    unfold Qfu
    rw [if_neg (by omega)]
    rfl
   rw [hbe]
   have HP:=Vh hp
   have HQ:=Vh hQ
   have HCR:=Vh hCr
   have HF2:=Vh f2
   have HLT:=Vh hlt
   clear hbe hp hQ f1 f2 hlt hco2
   go_wp2_with fail
   refine (cstop HCR.out.ok.h8 hCr.own).mono ?_
   rintro e w9 ⟨rfl,k9,hat9⟩
   have H9:=Vh (HM.out.oneCore HP.out HQ.out k9 (HCR.out.stop k9 hat9))
   have C9:=Vh (HC.out.trans' k9 (by intro x hx;simp only [List.mem_singleton] at hx;subst hx;exact .inr (HNW.out _ p HP.out _ (by simp [Kp.foot]))))
   clear k9 hat9 hCr hat hcb ocb HM HC
   go_wp2_with fail
   go_roundw
   case rel=>
    refine ⟨j+1,HLT.out,by go_num,?_,C9.out⟩
    rw [←HF2.out]
    exact H9.out
   case measure=>have:=HLT.out;simp [intOf];omega
  ·have:j=k1:=by have:=HJ.out;omega
   have hend:csF c M.rc j=(List.range c.co).map (Qil c M.rc):=by
    rw [←csF_end c M.rc HCO.out.co1]
    congr 1
    have:=HK1.out
    omega
   rw [hend] at HM
   have g1:¬(j:Int)<(k1:Int):=by omega
   clear hlt this hend
   go_wp2_with fail
   go_ret
   exact HM.out.tellOne HC.out HFE.out evFail
end
section
set_option maxRecDepth 100000
attribute [local go_sem ↓] Qv QF Qy QO QE Qs Qk Qh heap_alloc Ql heap_setCell Qc Yq Xu Xg ZP YD XA YC Xz Yi Yh Yd Ye Yf Xh XW XV XU Xj YK YL YJ YG YH YX YT XE YV YW YU YS Qbz J9 Qca Qcb Qb9 Qbv Qby Qbw Qbx
attribute [local go_sem] Qb Qa Qd Qi Qe Qg Qf QB Qw QN QL QM Q5 QK QA Qr QD QW QJ Qq QC Qp Qj Qo Qn Yc Xf YB Q8 Xv Xw JT Yg ZZ ZY ZX ZW Yn Ym Yj Yk Yl QG ZQ Xi ZR XT Zc XB YI XC Qad Xa Z9 Z8 Z7 Z6 YP YQ YO YM YN Z3 QY QZ QX QP Qt Zk Qbt ZU JX Qb8 JY Y2 Xd
attribute [local simp ↓] Qk Qh heap_alloc Ql heap_setCell Qc
attribute [local simp] Qb Qa Qd Qi Qe Qg Qf Qr Qj Qo Qn Q8 QG Zc QY QZ QX QP Qt QD ZU Xd
attribute [local go_sem ↓] Qh
theorem wideDg:Wide Tryz.prog 94 11:=⟨⟨_,Tryz.underlying94,by rfl⟩,by kernel_rfl⟩
theorem loadDg (x:Value):Instr.loadAt 94 x=Qda 94 11 x:=rfl
theorem storeDg (x y:Value):Instr.storeAt 94 x y=Qag 94 11 x y:=rfl
def dgv:Array Value:=#[.nilFunc,.func (.func 57) #[] #[],.func (.func 58) #[] #[],.func (.func 59) #[] #[],.func (.func 60) #[] #[],.func (.func 61) #[] #[],.func (.func 62) #[] #[],.func (.func 63) #[] #[],.func (.func 64) #[] #[],.func (.func 65) #[] #[],.func (.func 66) #[] #[]]
theorem dgv_one:J6 dgv:=Qp [.nilFunc,.func (.func 57) #[] #[],.func (.func 58) #[] #[],.func (.func 59) #[] #[],.func (.func 60) #[] #[],.func (.func 61) #[] #[],.func (.func 62) #[] #[],.func (.func 63) #[] #[],.func (.func 64) #[] #[],.func (.func 65) #[] #[],.func (.func 66) #[] #[]] rfl
theorem dgv_lit:(#[.nilFunc,.func (.func 57) #[] #[],.func (.func 58) #[] #[],.func (.func 59) #[] #[],.func (.func 60) #[] #[],.func (.func 61) #[] #[],.func (.func 62) #[] #[],.func (.func 63) #[] #[],.func (.func 64) #[] #[],.func (.func 65) #[] #[],.func (.func 66) #[] #[]]:Array Value)=dgv:=rfl
attribute [local go_sem ↓] loadDg storeDg dgv_lit
attribute [local go_sem] wideDg dgv_one
theorem doings_any (w:World):Calls Tryz.prog 37 #[] w fun e w'=>e=.returned (.agg dgv)∧Chg [] w w':=by
 have hz:dgv.size=11:=rfl
 go_enter Tryz.func37,Tryz.ntmps37
 try dsimp only [List.append]
 go_wp2
 refine bodyPost_ret (v:=.agg dgv) ?_ (by rfl) ?_
 ·have hb:(w.alloc (.cells dgv 94)).heap[w.heap.size]? =some (.cells dgv 94 (0,0)):=by simp
  have:=run_loadVar_row (P:=Tryz.prog) (w.alloc (.cells dgv 94)) w.heap.size 94 94 dgv (0,0) _ hb Tryz.underlying94 rfl (by kernel_rfl)
  simp [results,asAddr,this]
 exact ⟨rfl,by (repeat' (first |with_reducible exact Chg.refl _ _|with_reducible assumption|with_reducible refine Chg.drew ?_|with_reducible refine Chg.drewN ?_ _|with_reducible refine Chg.alloc ?_ _|with_reducible refine Chg.putRow ?_ _ _ _ (.inr ?_)|with_reducible refine Chg.setCell ?_ _ _ _ (.inr ?_)|(show _≤_;first |exact Nat.le_refl _|omega|(simp;done))))⟩
theorem dgv_at1 (W:World):(Instr.index 94 (.agg dgv) (.int .i64 1)).run Tryz.prog W=.ok (.func (.func 57) #[] #[]) W:=by rfl
theorem dgv_at2 (W:World):(Instr.index 94 (.agg dgv) (.int .i64 2)).run Tryz.prog W=.ok (.func (.func 58) #[] #[]) W:=by rfl
theorem dgv_at3 (W:World):(Instr.index 94 (.agg dgv) (.int .i64 3)).run Tryz.prog W=.ok (.func (.func 59) #[] #[]) W:=by rfl
theorem dgv_at4 (W:World):(Instr.index 94 (.agg dgv) (.int .i64 4)).run Tryz.prog W=.ok (.func (.func 60) #[] #[]) W:=by rfl
theorem dgv_at5 (W:World):(Instr.index 94 (.agg dgv) (.int .i64 5)).run Tryz.prog W=.ok (.func (.func 61) #[] #[]) W:=by rfl
theorem dgv_at6 (W:World):(Instr.index 94 (.agg dgv) (.int .i64 6)).run Tryz.prog W=.ok (.func (.func 62) #[] #[]) W:=by rfl
theorem dgv_at7 (W:World):(Instr.index 94 (.agg dgv) (.int .i64 7)).run Tryz.prog W=.ok (.func (.func 63) #[] #[]) W:=by rfl
theorem dgv_at8 (W:World):(Instr.index 94 (.agg dgv) (.int .i64 8)).run Tryz.prog W=.ok (.func (.func 64) #[] #[]) W:=by rfl
theorem dgv_at9 (W:World):(Instr.index 94 (.agg dgv) (.int .i64 9)).run Tryz.prog W=.ok (.func (.func 65) #[] #[]) W:=by rfl
theorem dgv_at10 (W:World):(Instr.index 94 (.agg dgv) (.int .i64 10)).run Tryz.prog W=.ok (.func (.func 66) #[] #[]) W:=by rfl
theorem doing_of {W:World} {c:Cg} {mp cb sy n:Nat} {F:List Nat} {ks:List Kp} {RA:Option Addr} {rcap:Nat} {M:Mac} {cur:Nat→List Int} (hI:MI c n M cur) (hn:n+1≤1000000000) (hT:Tabs W) (a:Ac) (hk1:1≤a.kd) (hk2:a.kd≤10):∃K:Nat,
 (∀W,(Instr.index 94 (.agg dgv) (.int .i64 a.kd)).run Tryz.prog W=.ok (.func (.func K) #[] #[]) W)∧(∀args W,(callFunc K args).run Tryz.prog W=.ok (.enter K args) W)∧
 ∀w,MaM W w c mp cb sy F ks RA rcap M→Calls Tryz.prog K #[.pointer (some ⟨mp,0,none⟩),.agg (acc a)] w (DoTo W w c mp RA rcap (mp::cb::(Xn ks++F)) (doA c M a.kd a.co a.li)):=by
 have hk:a.kd=1∨a.kd=2∨a.kd=3∨a.kd=4∨a.kd=5∨a.kd=6∨a.kd=7∨a.kd=8∨a.kd=9∨a.kd=10:=by omega
 rcases hk with hk|hk|hk|hk|hk|hk|hk|hk|hk|hk
 ·exact ⟨_,by rw [hk];exact dgv_at1,XO Tryz.func57 (by kernel_rfl) rfl,fun w h=>by rw [show doA c M a.kd a.co a.li=execA c M a.co by simp [doA,hk]];exact aexec h hI hn hT a⟩
 ·exact ⟨_,by rw [hk];exact dgv_at2,XO Tryz.func58 (by kernel_rfl) rfl,fun w h=>by rw [show doA c M a.kd a.co a.li=Qgt c M a.co by simp [doA,hk]];exact adrain h hI hn hT a⟩
 ·exact ⟨_,by rw [hk];exact dgv_at3,XO Tryz.func59 (by kernel_rfl) rfl,fun w h=>by rw [show doA c M a.kd a.co a.li=(M.sys (upM c M.S a.co).1,[]) by simp [doA,hk]];exact aup h hI hn hT a⟩
 ·exact ⟨_,by rw [hk];exact dgv_at4,XO Tryz.func60 (by kernel_rfl) rfl,fun w h=>by rw [show doA c M a.kd a.co a.li=(M.sys (answerM c M.S a.co).1,[]) by simp [doA,hk]];exact aanswer h hI hn hT a⟩
 ·exact ⟨_,by rw [hk];exact dgv_at5,XO Tryz.func61 (by kernel_rfl) rfl,fun w h=>by rw [show doA c M a.kd a.co a.li=hearA c M a.co by simp [doA,hk]];exact ahear h hI hn hT a⟩
 ·exact ⟨_,by rw [hk];exact dgv_at6,XO Tryz.func62 (by kernel_rfl) rfl,fun w h=>by rw [show doA c M a.kd a.co a.li=pushA c M a.li by simp [doA,hk]];exact apush h hI hn hT a⟩
 ·exact ⟨_,by rw [hk];exact dgv_at7,XO Tryz.func63 (by kernel_rfl) rfl,fun w h=>by rw [show doA c M a.kd a.co a.li=(M.sys (evictM c M.S a.co a.li).1,[]) by simp [doA,hk]];exact aevict h hI hn hT a⟩
 ·exact ⟨_,by rw [hk];exact dgv_at8,XO Tryz.func64 (by kernel_rfl) rfl,fun w h=>by rw [show doA c M a.kd a.co a.li=dropA c M a.li by simp [doA,hk]];exact adrop h hI hn hT a⟩
 ·exact ⟨_,by rw [hk];exact dgv_at9,XO Tryz.func65 (by kernel_rfl) rfl,fun w h=>by rw [show doA c M a.kd a.co a.li=(M.sys (drainM c M.S a.li).1,[]) by simp [doA,hk]];exact awrite h hI hn hT a⟩
 ·exact ⟨_,by rw [hk];exact dgv_at10,XO Tryz.func66 (by kernel_rfl) rfl,fun w h=>by rw [show doA c M a.kd a.co a.li=failA c M by simp [doA,hk]];exact afail h hI hn hT a⟩
section
variable {W w:World} {c:Cg} {mp cb sy n:Nat} {F:List Nat} {ks:List Kp} {RA:Option Addr} {rcap:Nat} {M:Mac} {cur:Nat→List Int} (h:MaM W w c mp cb sy F ks RA rcap M) (hI:MI c n M cur) (hn:n+1≤1000000000) (hT:Tabs W)
include h
theorem mdo_off (a:Ac) (ho:a.kd<1∨10<a.kd):Calls Tryz.prog 18 #[.pointer (some ⟨mp,0,none⟩),.agg (acc a)] w (DoTo W w c mp RA rcap (mp::cb::(Xn ks++F)) (doA c M a.kd a.co a.li)):=by
 rw [show doA c M a.kd a.co a.li=(M,[]) by simp only [doA];repeat' (rw [if_neg (by omega)])]
 have ha1:(w.alloc (.cells (acc a) 44)).heap[w.heap.size]? =some (.cells (acc a) 44 (0,0)):=by simp
 have c1:Chg [] w (w.alloc (.cells (acc a) 44)):=(Chg.refl [] w).alloc _
 rcases ho with ho|ho
 ·have t1:decide (a.kd<1)=true:=by simpa using ho
  go_enter Tryz.func18,Tryz.ntmps18
  go_wp2
  go_ret
  exact h.stayDo Cz14
 ·have t1:decide (a.kd<1)=false:=by simp;omega
  have t2:decide (a.kd > 10)=true:=by simp;omega
  go_enter Tryz.func18,Tryz.ntmps18
  go_wp2
  go_ret
  exact h.stayDo Cz14
include hI hn hT
theorem mdo (a:Ac):Calls Tryz.prog 18 #[.pointer (some ⟨mp,0,none⟩),.agg (acc a)] w (DoTo W w c mp RA rcap (mp::cb::(Xn ks++F)) (doA c M a.kd a.co a.li)):=by
 by_cases ho:a.kd<1∨10<a.kd
 ·exact mdo_off h a ho
 obtain ⟨K,hix,hen,hd⟩:=doing_of (W:=W) (mp:=mp) (cb:=cb) (sy:=sy) (F:=F) (ks:=ks) (RA:=RA) (rcap:=rcap) hI hn hT a (by omega) (by omega)
 have t1:decide (a.kd<1)=false:=by simp;omega
 have t2:decide (a.kd > 10)=false:=by simp;omega
 have ha1:(w.alloc (.cells (acc a) 44)).heap[w.heap.size]? =some (.cells (acc a) 44 (0,0)):=by simp
 have c1:Chg [] w (w.alloc (.cells (acc a) 44)):=(Chg.refl [] w).alloc _
 have H1:=Vh (h.keep0 c1)
 have C1:=Vh c1
 have HD:=Vh hd
 clear h hI hT hn c1 hd ho
 generalize hr:doA c M a.kd a.co a.li=r at *
 clear hr
 go_enter Tryz.func18,Tryz.ntmps18
 go_wp2_with fail
 generalize hw1:w.alloc (.cells (acc a) 44)=w1 at *
 generalize hp1:w.heap.size=p1 at *
 clear hw1 hp1
 have oa1:=old ha1
 clear t1 t2
 go_region_with (first
  |(go_at_call 37;refine (doings_any _).mono ?_;rintro e w' ⟨rfl,c5⟩;(have ha2:=c5.keep ha1 (by simp)))
  |(refine Calls.mono (HD.out _ ?_) ?_;(first |exact H1.out.keep0 c5|exact H1.out.keep0 (by first |exact c5|exact ((Chg.refl [] _).drew.trans c5)|exact c5.drew));rintro e w' hdo;(have HDO:=Vh hdo);obtain ⟨v,F',rfl,_⟩:=hdo))
 all_goals
  go_wp2_with fail
  go_ret
  exact DoTo.from C1.out (DoTo.from (Chg.trans ((Chg.refl [] w1).drew) c5) HDO.out)
end
end
section
set_option maxRecDepth 100000
attribute [local go_sem ↓] Qv QF Qy QO QE Qs Zg Q6 ZF Zu Qk Qh heap_alloc Ql heap_setCell Qc XG XJ XI Zi ZK Zt Xc ZL Xm Xl Xr Xq
attribute [local go_sem] Qb Qa Qd Qi Qe Qg Qf Qt Zk Zf ZD QB Qw QN QL QM Q5 QK QA Qr QD QW QJ Qq QC Qp Qj Qo Qn Qm Zj Zv lit8 QS Z2 ZE ZG ZN Zn ZH Xb ZI QH ZJ Zy Zz QV QU Za Xs
attribute [local simp ↓] Qk Qh heap_alloc Ql heap_setCell Qc
attribute [local simp] Qb Qa Qd Qi Qe Qg Qf Qt Qr Qj Qo Qn Qm QS QH QV QU Za QD
attribute [local go_sem ↓] Qa0 Qa1 Qaz Qay Qa3 Qa2 Qax Qa6
attribute [local go_sem] Jb Qaw Ja XN XR Zh Jo X5 Qa9 Z1 Zp Zo Zm Zr Zq Zl Ze Zd ZC ZB Jk X1
attribute [local simp] Zh ZB Zp Zo Zm Zr Zq Zl Ze Zd ZC
attribute [local go_sem ↓] Jn X0 Jm XZ X9
attribute [local go_sem] Ji Jh X4 Jj QR QT Yp
attribute [local simp] X9 QR QT QD Z1
attribute [local go_sem ↓] Yx Y4 Y5 J8
attribute [local simp] Yx
attribute [local go_sem ↓] Qgq cg_li cg_vo cg_qu
attribute [local go_sem] Qgm Qbp Qgv Qds fold_cg fold_cg0 sysZ_put sysZ_size
theorem znew_img (W w:World) (c:Cg) (hc:c.Ok) (hW:Chg [] W w) (A:Option Addr) (nc:Nat) (ys:List Int) (hs:Sl w 8 A c.li (ys.map (Value.int .u64))):Calls Tryz.prog 33 #[.agg c.cells,.slice A c.li nc] w (MadeSys W w c (J4 ys c.vo)):=by
 have HC:=Vh hc
 have HW:=Vh hW
 have HSL:=Vh hs
 have tl0:((c.li:Int) !=0)=true:=by have:=hc.li2;simp;omega
 have tl1:((c.li:Int) != (c.li:Int))=false:=by simp
 clear hc hW hs
 go_enter Tryz.func33,Tryz.ntmps33
 try dsimp only [List.append]
 go_wp2_with fail
 have r1:(w.alloc (.cells c.cells 23)).heap[w.heap.size]? =some (.cells c.cells 23 (0,0)):=by simp
 have C1:=Vh ((Chg.refl [] w).alloc (.cells c.cells 23))
 refine (zgood_at c HC.out _).mono ?_
 rintro e w2 ⟨rfl,c2⟩
 replace r1:=c2.keep r1 Vn
 have o1:=old r1
 have C2:=Vh (C1.out.trans c2)
 clear C1 c2
 have NB0:=Vh (show w.heap.size≠w2.heap.size from Nat.ne_of_lt o1.lt)
 generalize w.heap.size=b1 at r1 o1 NB0 ⊢
 go_wp2_with fail
 refine (new_ok c.li c.vo w2 HC.out.li2 HC.out.li64 HC.out.vo1 HC.out.vol).mono ?_
 rintro e w3 ⟨rfl,c3,hdev,hsz⟩
 replace r1:=c3.keep r1 Vn
 replace o1:=old r1
 have C3:=Vh (C2.out.trans c3)
 have HD:=Vh hdev
 have HL:=Vh C2.out.size
 have HGB:=Vh (show w.heap.size≤w2.heap.size+1∧w.heap.size≤w2.heap.size from ⟨by have:=C2.out.size;omega,C2.out.size⟩)
 have NB1:=Vh (show b1≠w2.heap.size from NB0.out)
 have HBB:=Vh (show w.heap.size≤w2.heap.size from C2.out.size)
 generalize w2.heap.size+1=g at HD HGB ⊢
 generalize w2.heap.size=b at HD HL HGB NB1 HBB
 clear c3 hsz
 have HG:=Vh (show w.heap.size≤g∧w.heap.size≤b from HGB.out)
 go_wp2_with fail
 refine (restore_ok g b c.li c.vo _ ys A nc w3 HD.out (HSL.out.chg C3.out (by simp))).mono ?_
 rintro e wr ⟨rfl,cr,dr⟩
 have CR:=Vh (C3.out.trans' cr (fun x hx=>.inr (by rw [Vs hx];exact HBB.out)))
 have DR:=Vh dr
 replace r1:=cr.keep r1 (by simpa using NB1.out)
 replace o1:=old r1
 clear cr dr
 go_wp2_with fail
 refine (fail_ok g b c.li c.vo ys wr DR.out).mono ?_
 rintro e wf ⟨rfl,cf,df⟩
 have CF:=Vh (CR.out.trans' cf (fun x hx=>.inr (by rw [Vs hx];exact HBB.out)))
 have DF:=Vh df
 replace r1:=cf.keep r1 (by simpa using NB1.out)
 replace o1:=old r1
 clear cf df
 go_wp2_with fail
 refine (wsys_new W c.li c.vo c.qu wf g b _ (HW.out.trans CF.out) DF.out (Nat.le_trans HW.out.size HG.out.1) (Nat.le_trans HW.out.size HG.out.2) HC.out.qu1 HC.out.qu16).mono ?_
 rintro e w4 ⟨q,rfl,hsys,c4,hq⟩
 replace r1:=c4.keep r1 Vn
 replace o1:=old r1
 have HS4:=Vh hsys
 have HQ:=Vh hq
 have C4:=Vh (CF.out.trans c4)
 clear hsys hq c4
 go_upto_region 9 with fail
 have rS:(w4.alloc (.cells (sysZ c (some q)) 116)).heap[w4.heap.size]? =some (.cells (sysZ c (some q)) 116 (0,0)):=Qbm _ _
 have K5:=Vh ((Chg.refl [] w4).alloc (.cells (sysZ c (some q)) 116))
 have NS:=Vh (Nat.le_refl w4.heap.size)
 have NQ:=Vh (show q<w4.heap.size∧g<w4.heap.size∧b<w4.heap.size from ⟨HS4.out.2.1.oldq.lt,HS4.out.2.2.1.oldg,HS4.out.2.2.1.oldb⟩)
 have SY0:=Vh C4.out.size
 have HSZ:=Vh (show w4.heap.size≤(w4.alloc (.cells (sysZ c (some q)) 116)).heap.size by simp)
 generalize w4.heap.size=sy at rS NS NQ SY0 HSZ ⊢
 generalize w4.alloc (.cells (sysZ c (some q)) 116)=w5 at rS K5 HSZ ⊢
 have hf:=Qh9 W w5 c HC.out sy (sysZ c (some q)) ((HW.out.trans C4.out).trans K5.out) (Nat.le_trans HW.out.size SY0.out) rS rfl rfl rfl rfl _ _ rfl rfl
 have HF:=Vh hf
 have HRS:=Vh rS
 clear hf rS r1 o1
 go_wp2_with fail
 refine HF.out.mono ?_
 rintro e w6 ⟨rfl,hfr⟩
 have hS5:=HS4.out.keep K5.out
 have hap:=HS4.out.2.2.2.1
 have hgb:g≠b:=by obtain ⟨_,_,_,_,_,_,_,h⟩:=HS4.out.2.2.1;exact h
 have hnd:([sy,q,g,b]++opt q q).Nodup:=by
  have h1:=NQ.out
  obtain ⟨a1,a2,a3,a4⟩:=hap
  simp [opt]
  omega
 obtain ⟨po,en,L,hm,hp,hc6,hk6⟩:=Qh4 (z:=⟨sy,q,q,g,b,0,0,List.replicate 6 0⟩) (fun po en=>sysZ_enc c q ⟨sy,q,q,g,b,po,en,List.replicate 6 0⟩ rfl rfl) ((HW.out.trans C4.out).trans K5.out) HRS.out (Nat.le_trans HW.out.size SY0.out) (by simp) hS5 hnd hfr
 have HFIN:=Vh (show MadeSys W w c (J4 ys c.vo) (.returned (.tuple #[.pointer (some ⟨sy,0,none⟩),.int .i64 0])) w6 by
  refine ⟨⟨sy,q,q,g,b,po,en,List.replicate 6 0⟩,L,rfl,hm,hp,((C4.out.trans K5.out).mono (by simp)).trans' hc6 (fun x hx=>.inr (by rw [Vs hx];exact SY0.out)),?_⟩
  intro k hk
  have h1:=HQ.out
  have h2:=HG.out
  have h3:=CF.out.size
  have h4:=SY0.out
  have h5:=C4.out.size
  have h6:=K5.out.size
  rcases hk6 k hk with h|h
  ·simp [opt] at h
   omega
  ·have:=HSZ.out
   omega)
 clear hfr hm hp hc6 hk6 hnd hS5
 go_wp2_with fail
 go_ret2
 exact HFIN.out
theorem mnew_img (W w:World) (c:Cg) (hc:c.Ok) (hW:Chg [] W w) (A:Option Addr) (nc:Nat) (ys:List Int) (hs:Sl w 8 A c.li (ys.map (Value.int .u64))):Calls Tryz.prog 33 #[.agg c.cells,.slice A c.li nc] w fun e w'=>∃sy F,e=.returned (.tuple #[.pointer (some ⟨sy,0,none⟩),.int .i64 0])∧Mem W w' c sy F (List.replicate c.co (pt0 c)) (List.replicate c.li enE) [] (J4 ys c.vo)∧Chg [] w w'∧∀k∈F,w.heap.size≤k:=
 (znew_img W w c hc hW A nc ys hs).mono fun e w' ⟨z,L,he,hm,hp,hc,hk⟩=>⟨z.sy,z.all L,he,⟨z,L,rfl,rfl,hp,hm⟩,hc,hk⟩
end
end Go.Proofs.YtcgjofbkcgedfaaGreatDoor
