/- Texts of the walk, one behind the other: Mff Mfg Mfh Mfi. No condition. -/
import Derived.Test.YtlidfghgjjffaaaGreatDoorMQaa
import Derived.Test.YtlidfghgjjffaaaGreatDoorMQah
import Derived.BigQuiet
import Derived.Deep.Cut
import Derived.Deep.CutBlock
import Derived.Deep.CutRange
import Derived.Deep.DeepCutAuto
import Derived.Deep.QuietTactic
import Derived.Deep.RegionHeld3
import Derived.Deep.RegionWith
namespace Go.Proofs.YtlidfghgjjffaaaGreatDoor
open Go.RowKit
set_option linter.unusedVariables false
set_option maxHeartbeats 1000000
set_option maxRecDepth 100000
attribute [local go_sem ↓] Qv QF Qx QP QG Qs Zg Q7 ZH Zt Qk Qh heap_alloc Ql heap_setCell Qc XG XP XO Zi ZP Zu Xk ZQ Xq Xp Xy Xx
attribute [local go_sem] Qb Qa Qe Qi Qd Qg Qf Qt Zk Zf ZE QB Qw QN QL QM Q6 QJ QA Qr QD QX QI Qq QC Qp Qj Qo Qn Qm Zj Zv lit8 QV Xc ZG ZL ZV Zn ZM Xj ZN QH ZO Zx Zy QZ QY Zb XB
attribute [local simp ↓] Qk Qh heap_alloc Ql heap_setCell Qc
attribute [local simp] Qb Qa Qe Qi Qd Qg Qf Qt Qr Qj Qo Qn Qm QV QH QZ QY Zb QD
attribute [local go_sem ↓] Qa3 Qa4 Qa2 Qa1 Qa6 Qa5 Qa0 Qbg
attribute [local go_sem] Y9 Qax Y8 XQ XT Zh Jo Yf Qbh Z9 Zp Zo Zm Zr Zq Zl Zd Zc ZD ZA Jj Yc
attribute [local simp] Zh ZA Zp Zo Zm Zr Zq Zl Zd Zc ZD
attribute [local go_sem ↓] Jl Yb Jk Ya Yg
attribute [local go_sem] Jh Jg Ye Ji QQ QU YH
attribute [local simp] Yg QQ QU QD Z9
attribute [local go_sem ↓] YL Y0 Y1 J5
attribute [local simp] YL
section
section
variable {W:World} {c:Cg} {z:Lay} {L:List (Po×Pt)} {en:List En} {es:List Ent} {xs:List Int}
theorem zhear_no (k:Int) (w:World) (h:Msd W w c z L en es xs) (hk:inB k c.co=false):Calls Tryz.prog 82 #[.pointer (some ⟨z.sy,0,none⟩),.int .i64 k] w fun r w'=>r=.returned (.tuple #[.agg (msc msZ),.int .i64 1])∧Chg [] w w':=by
 have HH:=Vh h
 have HK:=Vh hk
 clear h hk
 go_enter Tryz.func82,Tryz.ntmps82
 try dsimp only [List.append]
 go_wp2_with (first |(go_at_call 93;refine (Qdl k _ (HH.out.keep ((Chg.refl [] w).alloc _)) HK.out).mono ?_;rintro e w' ⟨rfl,rfl⟩))
 refine bodyPost_ret (v:=.tuple #[.agg (msc msZ),.int .i64 1]) ?_ (by rfl) ?_
 ·exact YJ (by rfl) _ _ w.heap.size msZ (0,0) (by rfl) (by simp [*]) _ (by rfl)
 ·exact ⟨rfl,by (repeat' (first |with_reducible exact Chg.refl _ _|with_reducible assumption|with_reducible refine Chg.drew ?_|with_reducible refine Chg.drewN ?_ _|with_reducible refine Chg.alloc ?_ _|with_reducible refine Chg.putRow ?_ _ _ _ (.inr ?_)|with_reducible refine Chg.setCell ?_ _ _ _ (.inr ?_)|(show _≤_;first |exact Nat.le_refl _|omega|(simp;done))))⟩
theorem zhear_none (i:Nat) (p:Po) (x:Pt) (w:World) (h:Msd W w c z L en es xs) (hy:L[i]? =some (p,x)) (hx:x.dn=[]):Calls Tryz.prog 82 #[.pointer (some ⟨z.sy,0,none⟩),.int .i64 i] w fun r w'=>r=.returned (.tuple #[.agg (msc msZ),.int .i64 14])∧∃p',MTo W w c z L z (L.set i (p',{x with dn:=[]})) en es xs w':=by
 have hi:i<c.co:=by rw [←h.cores];exact (Vg hy).1
 have hw:w.heap.size∉z.all L:=fun hm=>by have:=h.old _ hm;omega
 have HG:=Vh (fun w1 (c1:Chg [] w w1)=>(h.keep c1).pop_dn hy (by rw [hx];simp))
 rw [hx,Qfo,show Qde ([]:List Ms)=false from rfl] at HG
 have HH:=Vh h
 have HI:=Vh hi
 have HW:=Vh hw
 clear h hy hi hx hw
 go_enter Tryz.func82,Tryz.ntmps82
 try dsimp only [List.append]
 go_wp2_with (first |(go_at_call 93;refine (Y2 i _ (HH.out.keep ((Chg.refl [] w).alloc _)) HI.out).mono ?_;rintro e w' ⟨rfl,rfl⟩))
 refine (HG.out _ ((Chg.refl [] w).alloc _)).mono ?_
 rintro r w2 ⟨rfl,p',_,M2⟩
 have r0:w2.heap[w.heap.size]? =some (.cells (msc msZ) 184 (0,0)):=M2.2.1.keep (by simp) HW.out
 have o0:=old r0
 have HM2:=Vh ((HH.out.stay ((Chg.refl [] w).alloc (.cells (msc msZ) 184))).trans M2)
 have HSZ:=Vh (show w.heap.size<(w.alloc (.cells (msc msZ) 184)).heap.size by simp)
 have HN:=Vh M2.2.2
 clear M2
 go_wp2_with fail
 refine bodyPost_ret (v:=.tuple #[.agg (msc msZ),.int .i64 14]) ?_ (by rfl) ?_
 ·exact YJ (by rfl) _ _ w.heap.size msZ (0,0) (by rfl) (by simp [*]) _ (by rfl)
 ·refine ⟨rfl,p',(HM2.out.trans (HM2.out.1.stay ((Chg.refl [] w2).alloc _))).loc (((Chg.refl [w.heap.size] _).putRow w.heap.size 0 _ (.inl (by simp)))) ?_⟩
  intro k hk
  rw [List.mem_singleton] at hk
  subst hk
  refine ⟨HH.out.chg.size,Nat.le_refl _,fun hm=>?_⟩
  rcases HN.out _ hm with h1|h1
  ·exact HW.out h1
  ·have:=HSZ.out;omega
theorem Msd.answers {w w2:World} (h:Msd W w c z L en es xs) (hT:Tab W) {i:Nat} {p:Po} {x:Pt} (hy:L[i]? =some (p,x)) {s:Sta} {A:Option Addr} {nc:Nat} {ms:List Ms} (hq:x.an.length<1000) (h1:ms.length≤1) (hm:∀m∈ms,mg m=true) (h2:Told w w2 A ms) (h3:Agt W w2 p.g p.a p.b c.se c.wa s) (h4:Chg [p.a,p.b] w w2):
 Calls Tryz.prog 120 #[.pointer (some ⟨z.po,i*7+3,none⟩),.slice A ms.length nc] w2 fun e w'=>e=.returned (.tuple #[])∧∃p',p'.g=p.g∧MTo W w c z L z (L.set i (p',{x with s:=s,an:=x.an++ms})) en es xs w':=by
 have M2:=h.agent hy h3 h4
 have hold:=h.old
 refine (M2.1.send_an hT (set_at hy) A _ nc ms rfl h2.1 ?_ (by show x.an.length+ms.length≤1000;omega) hm).mono ?_
 ·intro a ha hk
  rw [all_set (y':=(p,{x with s:=s})) hy rfl] at hk
  have:=hold _ hk
  have:=h2.2 a ha
  omega
 ·rintro e w' ⟨he,p',hg,M3⟩
  refine ⟨he,p',hg,M2.trans ?_⟩
  rw [List.set_set] at M3
  exact M3
theorem zhear_go (i:Nat) (p:Po) (x:Pt) (m:Ms) (rest:List Ms) (s':Sta) (av:List Ms) (v:Int) (w:World) (h:Msd W w c z L en es xs) (hT:Tabs W) (hy:L[i]? =some (p,x)) (hx:x.dn=m::rest) (hlu:x.dn.length≤1000) (hu:x.s.2≤1000000000)
 (hr:hearF c.se c.wa x.s m=(s',(av,v))) (ha1:av.length≤1) (hla:x.an.length<1000) (hma:∀a∈av,mg a=true):
 Calls Tryz.prog 82 #[.pointer (some ⟨z.sy,0,none⟩),.int .i64 i] w fun r w'=>(v≠0∧r=.returned (.tuple #[.agg (msc msZ),.int .i64 v])∧∃p',MTo W w c z L z (L.set i (p',{x with s:=s',dn:=rest})) en es xs w')∨
  (v=0∧r=.returned (.tuple #[.agg (msc m),.int .i64 0])∧∃ks' p',MTo W w c z L {z with ks:=ks'} (L.set i (p',{x with s:=s',an:=x.an++av,dn:=rest})) en es xs w'):=by
 have hi:i<c.co:=by rw [←h.cores];exact (Vg hy).1
 have hw:w.heap.size∉z.all L:=fun hm=>by have:=h.old _ hm;omega
 have HG:=Vh (fun w1 (c1:Chg [] w w1)=>(h.keep c1).pop_dn hy hlu)
 have hxt:x.dn.tail=rest:=by rw [hx];rfl
 rw [hxt,hx,Qcu,show Qde (m::rest)=true from rfl] at HG
 have hh:∀(w1:World) (p1:Po),Agt W w1 p1.g p1.a p1.b c.se c.wa x.s→Calls Tryz.prog 119 #[.pointer (some ⟨p1.g,0,none⟩),.agg (msc m)] w1 (AgRet W w1 p1.g p1.a p1.b c.se c.wa s' (fun a=>.tuple #[a,.int .i64 v]) av):=by
  intro w1 p1 h1
  have:=ghear_any m w1 h1 hu hT
  rw [hr] at this
  exact this
 have HA:=Vh hh
 have HH:=Vh h
 have HI:=Vh hi
 have HW:=Vh hw
 have HT:=Vh hT
 have HY:=Vh hy
 have H1:=Vh ha1
 have HLA:=Vh hla
 have HMA:=Vh hma
 clear h hy hi hx hw hT hlu hu hr ha1 hla hma hh hxt
 go_enter Tryz.func82,Tryz.ntmps82
 try dsimp only [List.append]
 go_wp2_with (first |(go_at_call 93;refine (Y2 i _ (HH.out.keep ((Chg.refl [] w).alloc _)) HI.out).mono ?_;rintro e w' ⟨rfl,rfl⟩))
 refine (HG.out _ ((Chg.refl [] w).alloc _)).mono ?_
 rintro r w2 ⟨rfl,p',hg0,M2⟩
 clear hg0
 have r0:w2.heap[w.heap.size]? =some (.cells (msc msZ) 184 (0,0)):=M2.2.1.keep (by simp) HW.out
 have HM2:=Vh ((HH.out.stay ((Chg.refl [] w).alloc (.cells (msc msZ) 184))).trans M2)
 have HY2:=Vh (set_at (y':=(p',{x with dn:=rest})) HY.out)
 have NB:=Vh (show w.heap.size∉z.all (L.set i (p',{x with dn:=rest})) from fun hm=>by
  rcases M2.2.2 _ hm with h1|h1
  ·exact HW.out h1
  ·simp at h1;omega)
 clear M2
 generalize hL1:L.set i (p',{x with dn:=rest})=L1 at HM2 HY2 NB
 have HL1:=Vh hL1
 clear hL1
 have o0:=old r0
 go_wp2_with fail
 have C3:=Vh ((Chg.refl [] w2).alloc (.cells (msc m) 184))
 have r3:(w2.alloc (.cells (msc m) 184)).heap[w2.heap.size]? =some (.cells (msc m) 184 (0,0)):=by simp
 have N3:=Vh (show w2.heap.size∉z.all L1 from fun hm=>by have:=HM2.out.1.old _ hm;omega)
 replace r0:=C3.out.keep r0 Vn
 have ne0:w.heap.size≠w2.heap.size:=by have:=o0.lt;omega
 have H03:=Vh (show w.heap.size≤w2.heap.size from Nat.le_of_lt o0.lt)
 generalize w2.heap.size=b3 at r3 N3 ne0 H03 ⊢
 generalize hb0:w.heap.size=b0 at r0 NB ne0 H03 ⊢
 have HB0:=Vh hb0
 clear hb0 o0
 generalize w2.alloc (.cells (msc m) 184)=w3 at r0 r3 C3 ⊢
 have HM3:=Vh (HM2.out.1.keep C3.out)
 have rP:=HM3.out.ports
 have s0:Qc1 (w3.heap[z.po]?) (i*7)=some (.pointer (some ⟨p'.g,0,none⟩)):=by rw [rP,Qb];exact pcell0 HY2.out
 have hpa:∀k∈[p'.a,p'.b],k∈z.all L1:=fun k hk=>HM3.out.inf HY2.out (.inr (by
  unfold Po.foot
  simp only [List.mem_cons,Vn,or_false] at hk
  rcases hk with h5|h5<;>simp [h5]))
 have NP:=Vh (show z.po∉[p'.a,p'.b] from fun hp=>by
  have:z.po∈p'.foot z.po:=by
   unfold Po.foot
   simp only [List.mem_cons,Vn,or_false] at hp
   rcases hp with h5|h5<;>simp [←h5]
  exact (HM3.out.own HY2.out _ this).1 (Lay.beB (by simp)))
 have N3P:=Vh (show b3∉[p'.a,p'.b] from fun hm=>N3.out (hpa _ hm))
 have N0P:=Vh (show b0∉[p'.a,p'.b] from fun hm=>NB.out (hpa _ hm))
 have o3:=old r3
 have HR:=Vh rP
 have HC0:=Vh (show (sq penc L1 [])[i*7]? =some (.pointer (some ⟨p'.g,0,none⟩)) from pcell0 HY2.out)
 have HAG:=Vh (show Agt W w3.drew p'.g p'.a p'.b c.se c.wa x.s from ((HM3.out.keep (Chg.refl [] w3).drew).ok _ (List.mem_of_getElem? HY2.out)).1)
 have HAH:=Vh (HA.out _ p' HAG.out)
 have HR3:=Vh r3
 have HR0:=Vh r0
 clear rP hpa HA HAG HG
 go_upto_region 7 with fail
 go_region_held3 (fun w'=>Qc1 (w'.heap[z.po]?) (i*7)=some (.pointer (some ⟨p'.g,0,none⟩))∧w'.heap[b3]? =some (.cells (msc m) 184 (0,0)))
  (first |(refine ⟨?_,h4.keep r3 N3P.out⟩;rw [h4.keep HR.out NP.out,Qb];exact HC0.out)|exact ⟨s0,r3⟩)
  (first
   |(go_at_call 119;refine HAH.out.mono ?_;rintro e w' ⟨A,n,rfl,h2,h3,h4⟩))
 all_goals
  rename World=>w4
  rename _∧_=>hHeld
  have HS2:=Vh h2
  have HS3:=Vh h3
  have HS4:=Vh h4
  replace r3:=h4.keep r3 N3P.out
  replace r0:=h4.keep r0 N0P.out
  clear h2 h3 h4 s0 o3
  have o3:=old r3
  have o0:=old r0
  have HMA3:=Vh ((HM3.out.keep (Chg.refl [] w3).drew).agent HY2.out HS3.out HS4.out)
  have HLOC:=Vh (show W.heap.size≤b0∧w.heap.size≤b0 from ⟨by rw [←HB0.out];exact HH.out.chg.size,by rw [←HB0.out];exact Nat.le_refl _⟩)
  by_cases hv:v=0
  ·have HSE:=Vh ((HM3.out.keep (Chg.refl [] w3).drew).answers (nc:=n) HT.out.1 HY2.out HLA.out H1.out HMA.out HS2.out HS3.out HS4.out)
   clear hHeld
   obtain rfl:=hv
   go_wp2_with fail
   refine HSE.out.mono ?_
   rintro r w5 ⟨rfl,p2,hg2,M5⟩
   clear hg2
   have HM5:=Vh ((((HM2.out.trans (HM2.out.1.stay C3.out))).trans (HM3.out.stay (Chg.refl [] w3).drew)).trans M5)
   clear r3 r0 o3 o0
   have r3:=M5.2.1.keep HR3.out N3.out
   have r0:=M5.2.1.keep HR0.out NB.out
   have l3:=Z6 HR3.out
   have l0:=Z6 HR0.out
   have HN3:=Vh (fun hm=>by rcases M5.2.2 b3 hm with h1|h1;exact N3.out h1;simp at h1;omega:b3∉z.all _)
   have HN0:=Vh (fun hm=>by rcases M5.2.2 b0 hm with h1|h1;exact NB.out h1;simp at h1;omega:b0∉z.all _)
   have hs5:L1.set i (p2,{x with s:=s',an:=x.an++av,dn:=rest})=L.set i (p2,{x with s:=s',an:=x.an++av,dn:=rest}):=by rw [←HL1.out,List.set_set]
   have hm5:=HM5.out
   have hn3:=HN3.out
   have hn0:=HN0.out
   try dsimp only at hm5 hn3 hn0
   rw [hs5] at hm5 hn3 hn0
   have HM6:=Vh hm5
   have HN6:=Vh hn3
   have HN7:=Vh hn0
   clear M5 l3 l0 hs5 hm5 hn3 hn0
   have o3:=old r3
   have o0:=old r0
   go_wp2_with fail
   refine (HM6.out.1.count 12 (by decide) (by decide)).mono ?_
   rintro r w6 ⟨⟨v,rfl⟩,ks',M6⟩
   replace r3:=M6.2.1.keep r3 HN6.out
   replace r0:=M6.2.1.keep r0 HN7.out
   have HM7:=Vh (HM6.out.trans M6)
   clear M6 o3 o0
   have o3:=old r3
   have o0:=old r0
   go_wp2_with fail
   refine bodyPost_ret (v:=.tuple #[.agg (msc m),.int .i64 0]) ?_ (by rfl) ?_
   ·exact YJ (by rfl) _ _ b0 m (0,0) (by rfl) (by simp [*]) _ (by rfl)
   ·have hfin:∃ks' p',MTo W w c z L {z with ks:=ks'} (L.set i (p',{x with s:=s',an:=x.an++av,dn:=rest})) en es xs (putRow w6 b0 0 (msc m)):=by
     refine ⟨ks',p2,HM7.out.loc ((Chg.refl [b0] w6).putRow b0 0 (msc m) (.inl (by simp))) ?_⟩
     intro k hk
     rw [List.mem_singleton] at hk
     subst hk
     exact ⟨HLOC.out.1,HLOC.out.2,HN7.out⟩
    first
     |exact .inr ⟨rfl,rfl,hfin⟩
     |exact ⟨rfl,hfin⟩
  ·have tv:(v !=0)=true:=by simpa using hv
   clear hHeld
   go_wp2_with fail
   refine bodyPost_ret (v:=.tuple #[.agg (msc msZ),.int .i64 v]) ?_ (by rfl) ?_
   ·exact YJ (by rfl) _ _ b0 msZ (0,0) (by rfl) (by simp [*]) _ (by rfl)
   ·have hfin:∃p',MTo W w c z L z (L.set i (p',{x with s:=s',dn:=rest})) en es xs (putRow w4 b0 0 (msc msZ)):=by
     have hm:=(((HM2.out.trans (HM2.out.1.stay C3.out))).trans (HM3.out.stay (Chg.refl [] w3).drew)).trans HMA3.out
     have hn:b0∉z.all (L1.set i (p',{x with s:=s',dn:=rest})):=by rw [all_set (y':=(p',{x with s:=s',dn:=rest})) HY2.out rfl];exact NB.out
     have e5:L1.set i (p',{x with s:=s',dn:=rest})=L.set i (p',{x with s:=s',dn:=rest}):=by rw [←HL1.out,List.set_set]
     try dsimp only at hm
     rw [e5] at hm hn
     refine ⟨p',hm.loc ((Chg.refl [b0] w4).putRow b0 0 (msc msZ) (.inl (by simp))) ?_⟩
     intro k hk
     rw [List.mem_singleton] at hk
     subst hk
     exact ⟨HLOC.out.1,HLOC.out.2,hn⟩
    first
     |exact .inl ⟨hv,rfl,hfin⟩
     |exact ⟨rfl,hfin⟩
end
end
section
def Qdg (e:En):Bool:=!e.he||decide (0≤e.ow)||e.sh !=0#8||e.bu !=0
section
variable {W:World} {c:Cg} {z:Lay} {L:List (Po×Pt)} {en:List En} {es:List Ent} {xs:List Int}
theorem zdrop_off (k:Int) (w:World) (h:Msd W w c z L en es xs) (hk:inB k c.li=false):Calls Tryz.prog 87 #[.pointer (some ⟨z.sy,0,none⟩),.int .i64 k] w fun r w'=>r=.returned (.int .i64 1)∧w=w':=by
 have HH:=Vh h
 have HK:=Vh hk
 clear h hk
 go_enter Tryz.func87,Tryz.ntmps87
 try dsimp only [List.append]
 go_wp2_with (first |(go_at_call 69;refine (Z8 k false HK.out _ HH.out).mono ?_;rintro e w' ⟨rfl,rfl⟩))
 go_ret
 exact ⟨rfl,rfl⟩
theorem zdrop_kept (i:Nat) (e:En) (w:World) (h:Msd W w c z L en es xs) (he:en[i]? =some e) (hd:Qdg e=true):Calls Tryz.prog 87 #[.pointer (some ⟨z.sy,0,none⟩),.int .i64 i] w fun r w'=>r=.returned (.int .i64 16)∧Chg [] w w':=by
 have hi:i<c.li:=by rw [←h.lines];exact (Vg he).1
 have rS:=h.sys
 have rE:=h.ents
 have oS:=old rS
 have oE:=old rE
 have p0:=fun t f=>erow he t f
 have p1:=fun t f=>Qev he t f
 have g0:(0:Int)≤(i:Int):=by omega
 have g1:(i:Int)<(c.li:Int):=by omega
 have HH:=Vh h
 have HB:=Vh (show inB (i:Int) c.li=true by unfold inB;simp;omega)
 have HE:=Vh he
 clear h he hi
 cases h1:e.he
 ·clear hd
  exact Tz35
 cases h2:decide (0≤e.ow)
 ·cases h3:(e.sh !=0#8)
  ·have h4:(e.bu !=0)=true:=by unfold Qdg at hd;rw [h1,h2,h3] at hd;simpa using hd
   clear hd
   exact Tz35
  ·clear hd
   exact Tz35
 ·clear hd
  exact Tz35
theorem sl_none (w:World):Sl w 13 none 0 (cat Sd.enc ([]:List Sd)):=⟨rfl,.inl rfl⟩
def Qat (c:Cg) (es:List Ent) (i:Nat) (e:En):Int:=if e.di=true then Qd6 c.li c.qu es i else 0
def Ju (c:Cg) (es:List Ent) (i:Nat) (e:En):List Ent:=if e.di=true then pushEs c.li c.qu es i e.l e.h else es
theorem zsave_ok (i:Nat) (e:En) (w:World) (h:Msd W w c z L en es xs) (he:en[i]? =some e):Calls Tryz.prog 122 #[.pointer (some ⟨z.sy,0,none⟩),.int .i64 i] w fun r w'=>r=.returned (.int .i64 (Qat c es i e))∧∃be',MTo W w c z L {z with be:=be'} L en (Ju c es i e) xs w':=by
 cases hd:e.di
 ·rw [show Qat c es i e=0 by unfold Qat;rw [if_neg (by simp [hd])],show Ju c es i e=es by unfold Ju;rw [if_neg (by simp [hd])]]
  exact (zsave_clean i e w h he hd).mono fun r w' hr=>⟨hr.1,z.be,h.stay hr.2⟩
 ·rw [show Qat c es i e=Qd6 c.li c.qu es i by unfold Qat;rw [if_pos hd],show Ju c es i e=pushEs c.li c.qu es i e.l e.h by unfold Ju;rw [if_pos hd]]
  exact zsave_dirty i e w h he hd
theorem zdrop_go (i:Nat) (e:En) (w:World) (h:Msd W w c z L en es xs) (hT:Tab W) (he:en[i]? =some e) (hd:Qdg e=false) (v:Int) (hv:Qat c es i e=v) (es':List Ent) (hs:Ju c es i e=es') (M:Nat) (hM:∀x∈ports L,x.dn.length≤M) (hMn:M≤1000):
 Calls Tryz.prog 87 #[.pointer (some ⟨z.sy,0,none⟩),.int .i64 i] w fun r w'=>(v≠0∧r=.returned (.int .i64 v)∧∃be',MTo W w c z L {z with be:=be'} L en es' xs w')∨
  (v=0∧r=.returned (.int .i64 0)∧∃be' ks' L',MTo W w c z L {z with be:=be',ks:=ks'} L' (en.set i enE) es' xs w'∧ports L'=ports L):=by
 have hi:i<c.li:=by rw [←h.lines];exact (Vg he).1
 have rS:=h.sys
 have rE:=h.ents
 have oS:=old rS
 have oE:=old rE
 have p0:=fun t f=>erow he t f
 have p1:=fun t f=>Qev he t f
 have g0:(0:Int)≤(i:Int):=by omega
 have g1:(i:Int)<(c.li:Int):=by omega
 have HH:=Vh h
 have HB:=Vh (show inB (i:Int) c.li=true by unfold inB;simp;omega)
 have HE:=Vh he
 have h1:e.he=true:=by unfold Qdg at hd;cases h0:e.he<;>simp [h0] at hd ⊢
 have h2:decide (0≤e.ow)=false:=by unfold Qdg at hd;rw [h1] at hd;simp at hd;simpa using hd.1.1
 have h3:(e.sh !=0#8)=false:=by unfold Qdg at hd;rw [h1] at hd;simp at hd;simpa using hd.1.2
 have h4:(e.bu !=0)=false:=by unfold Qdg at hd;rw [h1] at hd;simp at hd;simpa using hd.2
 have HS:=Vh (fun w1 (c1:Chg [] w w1)=>hs▸hv▸zsave_ok i e w1 (h.keep c1) he)
 have HT:=Vh hT
 have HMM:=Vh hM
 have HMN:=Vh hMn
 clear h he hi hd hv hs hT hM hMn
 go_enter Tryz.func87,Tryz.ntmps87
 try dsimp only [List.append]
 go_wp2_with (first |(go_at_call 69;refine (Z8 (i:Int) true HB.out _ HH.out).mono ?_;rintro e w' ⟨rfl,rfl⟩))
 have C1:=Vh ((Chg.refl [] w).alloc (.cells (ec e) 107))
 refine (HS.out _ C1.out).mono ?_
 rintro r w2 ⟨rfl,be',M2⟩
 have HM2:=Vh ((HH.out.stay C1.out).trans M2)
 clear M2
 by_cases hv:v=0
 ·obtain rfl:=hv
  go_wp2_with fail
  refine (Qek _).mono ?_
  rintro r w3 ⟨rfl,c3⟩
  have HM3:=Vh (HM2.out.trans (HM2.out.1.stay c3))
  clear c3
  go_wp2_with fail
  refine (Qd5 i e enE none 0 0 [] w3 HM3.out.1 HT.out HE.out rfl (sl_none _) (by simp) (by simp) M HMM.out (by have:=HMN.out;omega)).mono ?_
  rintro r w4 ⟨rfl,L',M4,hp⟩
  have HM4:=Vh (HM3.out.trans M4)
  have HPP:=Vh hp
  clear M4 hp
  go_wp2_with fail
  refine (HM4.out.1.count 14 (by decide) (by decide)).mono ?_
  rintro r w5 ⟨⟨v,rfl⟩,ks',M5⟩
  have HM5:=Vh (HM4.out.trans M5)
  clear M5
  go_wp2_with fail
  go_ret
  have hfin:∃be' ks' L',MTo W w c z L {z with be:=be',ks:=ks'} L' (en.set i enE) es' xs w5∧ports L'=ports L:=⟨be',ks',L',HM5.out,HPP.out⟩
  first
   |exact .inr ⟨rfl,rfl,hfin⟩
   |exact ⟨rfl,hfin⟩
 ·have tv:(v !=0)=true:=by simpa using hv
  go_wp2_with fail
  go_ret
  first
   |exact .inl ⟨hv,rfl,be',HM2.out⟩
   |exact ⟨rfl,be',HM2.out⟩
theorem zmemory_ok (w:World) (h:Msd W w c z L en es xs):Calls Tryz.prog 16 #[.pointer (some ⟨z.sy,0,none⟩)] w (Qbu w c.li (over xs es)):=by
 have rS:=h.sys
 have HG:=Vh (qimage_ok z.q z.be z.g z.b c.li c.vo c.qu es xs w h.mem.2.1 h.mem.2.2.1)
 clear h
 go_enter Tryz.func16,Tryz.ntmps16
 try dsimp only [List.append]
 go_wp2_with fail
 refine HG.out.mono ?_
 rintro r w2 ⟨g,cap,r1,rfl,h1,h2,h3,hc⟩
 have H1:=Vh h1
 have H2:=Vh h2
 have H3:=Vh h3
 have HC:=Vh hc
 clear h1 h2 h3 hc
 go_wp2_with fail
 go_ret
 exact ⟨g,cap,r1,rfl,H1.out,H2.out,H3.out,HC.out⟩
def Qus (w:World) (x:Pt):Ending→World→Prop:=fun e w'=>∃A1 n1 A2 n2 A3 n3,e=.returned (.tuple #[.slice A1 x.up.length n1,.slice A2 x.an.length n2,.slice A3 x.dn.length n3])∧Sl w' 12 A1 x.up.length (cat Ms.enc x.up)∧Sl w' 12 A2 x.an.length (cat Ms.enc x.an)∧Sl w' 12 A3 x.dn.length (cat Ms.enc x.dn)∧Chg [] w w'
theorem zqueues_ok (i:Nat) (p:Po) (x:Pt) (w:World) (h:Msd W w c z L en es xs) (hy:L[i]? =some (p,x)) (h1:x.up.length≤1000) (h2:x.an.length≤1000) (h3:x.dn.length≤1000):Calls Tryz.prog 66 #[.pointer (some ⟨z.sy,0,none⟩),.int .i64 i] w (Qus w x):=by
 have hi:i<c.co:=by rw [←h.cores];exact (Vg hy).1
 have rS:=h.sys
 have HH:=Vh h
 have HI:=Vh hi
 have HQ1:=Vh (fun w1 (c1:Chg [] w w1)=>(h.keep c1).all_up hy h1)
 have HQ2:=Vh (fun w1 (c1:Chg [] w w1)=>(h.keep c1).all_an hy h2)
 have HQ3:=Vh (fun w1 (c1:Chg [] w w1)=>(h.keep c1).all_dn hy h3)
 obtain ⟨n1,hn1⟩:∃n,x.up.length=n:=⟨_,rfl⟩
 obtain ⟨n2,hn2⟩:∃n,x.an.length=n:=⟨_,rfl⟩
 obtain ⟨n3,hn3⟩:∃n,x.dn.length=n:=⟨_,rfl⟩
 clear h hi h1 h2 h3 hn1 hn2 hn3 hy
 go_enter Tryz.func66,Tryz.ntmps66
 try dsimp only [List.append]
 go_wp2_with (first |(go_at_call 93;refine (Y2 i _ HH.out HI.out).mono ?_;rintro e w' ⟨rfl,rfl⟩))
 go_upto_region 4 with fail
 go_region_held3 (fun w'=>w'.heap[z.sy]? =some (.cells (z.enc c).toArray 103 (0,0)))
  (first |exact T3.keep rS Vn|exact T2.keep rS Vn|exact T1.keep rS Vn|exact rS)
  (first
   |(go_at_call 94;(first
    |(refine (HQ3.out _ T2).mono ?_;rintro e w' ⟨A3,m3,rfl,s3,c3⟩;have T3:=T2.trans c3)
    |(refine (HQ2.out _ T1).mono ?_;rintro e w' ⟨A2,m2,rfl,s2,c2⟩;have T2:=T1.trans c2)
    |(refine (HQ1.out _ (Chg.refl [] w).drew).mono ?_;rintro e w' ⟨A1,m1,rfl,s1,c1⟩;have T1:=(Chg.refl [] w).drew.trans c1))))
 all_goals
  clear rS
  go_wp2_with fail
  go_ret3
  exact ⟨A1,m1,A2,m2,A3,m3,rfl,(s1.chg c2 (by simp)).chg c3 (by simp),s2.chg c3 (by simp),s3,T3⟩
end
end
section
theorem mul64_one (n:Nat) (hn:n≤64) (w:World):Calls Tryz.prog 133 #[.int .u64 1,.int .u64 n] w fun e w'=>e=.returned (.tuple #[.int .u64 0,.int .u64 n])∧w=w':=by
 have b1:bits BinOp.and IntKind.u64 1 4294967295=1:=by decide
 have b0:bits BinOp.and IntKind.u64 0 4294967295=0:=by decide
 have b2:bits BinOp.and IntKind.u64 (n:Int) 4294967295=(n:Int):=by
  have:∀k:Fin 65,bits BinOp.and IntKind.u64 ((k.val:Nat):Int) 4294967295=((k.val:Nat):Int):=by decide
  exact this ⟨n,by omega⟩
 have d0:(n:Int) / 4294967296=0:=by omega
 have w1:IntKind.u64.wrap (n:Int)=(n:Int):=by
  have:∀k:Fin 65,IntKind.u64.wrap ((k.val:Nat):Int)=((k.val:Nat):Int):=by decide
  exact this ⟨n,by omega⟩
 have w0:IntKind.u64.wrap 0=0:=by decide
 go_enter Tryz.func133,Tryz.ntmps133
 try dsimp only [List.append]
 go_wp2_with fail
 go_ret2
 exact ⟨by simp,rfl⟩
theorem mul_one (n:Nat) (hn:n≤64) (w:World):Calls Tryz.prog 99 #[.int .u64 1,.int .u64 n] w fun e w'=>e=.returned (.tuple #[.int .u64 0,.int .u64 n])∧w=w':=by
 go_enter Tryz.func99,Tryz.ntmps99
 try dsimp only [List.append]
 go_wp2_with (first |(go_at_call 133;refine (mul64_one n hn _).mono ?_;rintro e w' ⟨rfl,rfl⟩))
 go_ret2
 exact ⟨rfl,rfl⟩
theorem made_sq {α:Type} {enc:α→List Value} {k:Nat} (hk:∀a,(enc a).length=k) (h0:0<k) (a0:α) (n:Nat):madeCells (enc a0).toArray (n*k)=sq enc (List.replicate n a0) []:=by
 apply Array.ext
 ·rw [JD hk];simp [madeCells]
 ·intro i h1 h2
  have hi:i<n*k:=by simpa [madeCells] using h1
  obtain ⟨j,d,hj,hd,rfl⟩:∃j d,j<n∧d<k∧i=j*k+d:=⟨i / k,i % k,by rw [Nat.div_lt_iff_lt_mul h0];exact hi,Nat.mod_lt _ h0,by rw [Nat.mul_comm];exact (Nat.div_add_mod i k).symm⟩
  have h3:(List.replicate n a0)[j]? =some a0:=by rw [List.getElem?_replicate,if_pos hj]
  have h4:=JU hk h3 [] d hd
  rw [Array.getElem?_eq_getElem h2] at h4
  have e11:(enc a0).toArray.size=k:=by simp [hk]
  have hmod:(j*k+d) % k=d:=by rw [Nat.add_comm,Nat.add_mul_mod_self_right,Nat.mod_eq_of_lt hd]
  simp only [madeCells,Array.getElem_map,Array.getElem_range]
  have h5:((enc a0).toArray)[d]? =(enc a0)[d]?:=by rw [List.getElem?_toArray]
  rw [←h4,Array.getElem?_eq_getElem (by rw [e11];exact hd)] at h5
  rw [e11,hmod,getElem!_pos (enc a0).toArray d (by rw [e11];exact hd)]
  exact Option.some.inj h5
section
variable {P:Program} {t e:TypeId} {ty:TypeId}
theorem run_copy_min {t':TypeId} {i:TypeInfo} (ht:P.underlying t=some (.slice e)) (hi:P.info? e=some i) (w:World) (b o:Nat) (A:Option Addr) (n c m d k:Nat) (xs:List Value) (hk:Nat.min n m=k) (h:Sl w i.size A k xs) (h1:∀v∈xs,v.oneCell'=true) (hb:ZX (w.heap[b]?) o xs.length=true):
 copR P t t' ty #[.slice (some ⟨b,o,none⟩) m d,.slice A n c] w=.ok (goInt k) (putRow w b o xs.toArray):=by
 have hf:=YK (P:=P) w i.size k A n c xs h
 have hst:=run_storeCells_cells (P:=P) b o xs 0 w ?_ ?_ h1
 ·simp only [Nat.add_zero] at hst
  simp [copR,Builtin.copy_,run_underlying ht,Builtin.lenOf,sizeOf,typeInfo,hi,hf,hst,putRow,hk]
 all_goals
  intro j hj
  rw [Nat.add_zero]
  cases e:w.heap[b]? with
  |none=>rw [e] at hb;cases hb
  |some x=>
   rw [e] at hb
   cases x with
   |cells c t f=>
    simp [ZX] at hb
    obtain ⟨hb,rfl⟩:=hb
    have:=hb.out
    first
     |(rw [QG,e,Qb];simp;omega)
     |(rw [Qs,e,Qa])
   |_=>simp [ZX] at hb
end
theorem cat_more {α:Type} {k:Nat} {enc:α→List Value} (hk:∀a,(enc a).length=k) (xs ys zs:List α) (h:zs.length≤ys.length):Zz (cat enc (xs++ys)) (xs.length*k) (cat enc zs)=cat enc (xs++zs++ys.drop zs.length):=by
 unfold Zz
 rw [Jc,Jc,Jc,List.take_left' (Q9 hk xs),List.drop_append,List.drop_eq_nil_of_le (by rw [Q9 hk,Q9 hk];omega),Q9 hk,Q9 hk,List.nil_append,Nat.add_sub_cancel_left]
 congr 1
 have:∀(n:Nat) (l:List α),(cat enc l).drop (n*k)=cat enc (l.drop n):=by
  intro n
  induction n with
  |zero=>intro l;simp
  |succ n ih=>
   intro l
   cases l with
   |nil=>simp [cat]
   |cons a l=>
    rw [List.drop_succ_cons,←ih l,cat_cons,Nat.add_mul,Nat.one_mul,Nat.add_comm,←hk a,List.drop_append]
    simp
 exact this _ _
theorem en_info:(Tryz.prog.info? 107).map (fun i=>(i.zero,i.size,i.bytes))=some (some (.agg (ec enZ)),15,112):=by kernel_rfl
def repE (e:En) (n k:Nat):List En:=List.replicate k e++List.replicate (n-k) enZ
theorem repE_len (e:En) (n k:Nat) (h:k≤n):(repE e n k).length=n:=by simp [repE];omega
theorem repE_zero (e:En) (n:Nat):repE e n 0=List.replicate n enZ:=by simp [repE]
theorem repE_all (e:En) (n:Nat):repE e n n=List.replicate n e:=by simp [repE]
theorem repE_put (e:En) (n k j:Nat) (hj:k+j≤n) (t:TypeId) (f:Nat×Nat):J6 (some (.cells (sq En.enc (repE e n k) []) t f)) (k*15) (cat En.enc (List.replicate j e)).toArray=some (.cells (sq En.enc (repE e n (k+j)) []) t f):=by
 rw [XD,YF,List.append_nil,List.toList_toArray]
 have h1:Zz (cat En.enc (repE e n k)) (k*15) (cat En.enc (List.replicate j e))=cat En.enc (repE e n (k+j)):=by
  have h2:=cat_more En.len (List.replicate k e) (List.replicate (n-k) enZ) (List.replicate j e) (by simp;omega)
  rw [List.length_replicate] at h2
  unfold repE
  rw [h2,List.length_replicate,List.replicate_append_replicate,List.drop_replicate,show n-k-j=n-(k+j) by omega]
 rw [h1]
 unfold sq
 rw [List.append_nil]
theorem run_make_ents (w:World) (n:Nat) (hn:n≤64):mkR Tryz.prog 94 (.int .i64 n) (.int .i64 n) w=.ok (.slice (some ⟨w.heap.size,0,none⟩) n n) (w.alloc (.cells (sq En.enc (List.replicate n enZ) []) 107)):=by
 obtain ⟨i0,hi0,hz0,hz1,hz2⟩:=info_parts en_info
 have:=run_make (P:=Tryz.prog) w 94 107 i0 _ Tryz.underlying94 hi0 hz0 .i64 .i64 n n (by omega) (by omega) (by rw [hz2];omega) (by omega)
 simp only [Int.toNat_natCast,hz1] at this
 rw [←made_sq En.len (by decide)]
 exact this
theorem slR_from (w:World) (b n k:Nat) (hk:k<n):slR Tryz.prog 94 (.slice (some ⟨b,0,none⟩) n n) (some (.int .i64 k)) none none w=.ok (.slice (some ⟨b,k*15,none⟩) (n-k) (n-k)) w:=by
 obtain ⟨i0,hi0,hz0,hz1,hz2⟩:=info_parts en_info
 unfold slR
 have h1:(0:Int)≤(k:Int):=by omega
 have h4:k≤n:=by omega
 have h5:¬n=k:=by omega
 simp [Instr.slice,Instr.sliceBounds,Instr.sliceBound,asIntOf,run_underlying Tryz.underlying94,sizeOf,typeInfo,hi0,hz1,h1,h4,h5,Addr.add]
 omega
theorem slR_to (w:World) (b n k:Nat) (hk:k≤n):slR Tryz.prog 94 (.slice (some ⟨b,0,none⟩) n n) none (some (.int .i64 k)) none w=.ok (.slice (some ⟨b,0,none⟩) k n) w:=by
 obtain ⟨i0,hi0,hz0,hz1,hz2⟩:=info_parts en_info
 unfold slR
 have h1:(0:Int)≤(k:Int):=by omega
 simp [Instr.slice,Instr.sliceBounds,Instr.sliceBound,asIntOf,run_underlying Tryz.underlying94,sizeOf,typeInfo,hi0,h1,Addr.add]
 intro h;omega
theorem ent_copyS (w:World) (b e0 n k m d c:Nat) (A:Option Addr) (o:Nat) (xs:List En) (hk:Nat.min c m=k) (h:Sl w 15 A k (cat En.enc xs)) (hb:ZX (w.heap[b]?) o (cat En.enc xs).length=true):
 copR Tryz.prog 94 94 3 #[.slice (some ⟨b,o,none⟩) m d,.slice A c n] w=.ok (goInt k) (putRow w b o (cat En.enc xs).toArray):=by
 obtain ⟨i0,hi0,hz0,hz1,hz2⟩:=info_parts en_info
 rw [←hz1] at h
 exact run_copy_min Tryz.underlying94 hi0 w b o A c n m d k _ hk h (fun v hv=>Qcf En.one xs v hv) hb
theorem repeat_ok (e:En) (b n:Nat) (w:World) (hb:w.heap[b]? =some (.cells (sq En.enc [e] []) 107 (0,0))) (h1:1≤n) (hn:n≤64):
 Calls Tryz.prog 76 #[.slice (some ⟨b,0,none⟩) 1 1,.int .i64 n] w fun r w'=>∃b',r=.returned (.slice (some ⟨b',0,none⟩) n n)∧w'.heap[b']? =some (.cells (sq En.enc (List.replicate n e) []) 107 (0,0))∧w.heap.size≤b'∧Chg [] w w':=by
 have hmk:=fun W=>run_make_ents W n hn
 have HB:=Vh hb
 have OB:=Vh (old hb)
 have g0:(0:Int)≤(n:Int):=by omega
 have g1:(n:Int)≤64:=by omega
 have t1:decide ((n:Int)<0)=false:=by simp
 have u1:IntKind.u64.wrap (n:Int)=(n:Int):=by
  have:∀k:Fin 65,IntKind.u64.wrap ((k.val:Nat):Int)=((k.val:Nat):Int):=by decide
  exact this ⟨n,by omega⟩
 have u2:IntKind.i64.wrap (n:Int)=(n:Int):=by
  have:∀k:Fin 65,IntKind.i64.wrap ((k.val:Nat):Int)=((k.val:Nat):Int):=by decide
  exact this ⟨n,by omega⟩
 have t2:decide ((9223372036854775807:Int)<(n:Int))=false:=by simp;omega
 have c1:=(Chg.refl [] w).alloc (.cells (sq En.enc (List.replicate n enZ) []) 107)
 have hz:(w.alloc (.cells (sq En.enc (List.replicate n enZ) []) 107)).heap[w.heap.size]? =some (.cells (sq En.enc (repE e n 0) []) 107 (0,0)):=by rw [repE_zero];simp
 have hcp:=ent_copyS (w.alloc (.cells (sq En.enc (List.replicate n enZ) []) 107)) w.heap.size 0 1 1 n n 1 (some ⟨b,0,none⟩) 0 [e] (Nat.min_eq_left h1) ⟨by rw [Q9 En.len];rfl,.inr ⟨b,0,_,_,_,rfl,c1.keep hb (by simp),by rw [YF,List.append_nil,List.drop_zero,List.take_of_length_le (by rw [Q9 En.len];exact Nat.le_refl _)]⟩⟩ (by
  rw [hz,Qe,JD En.len,repE_len e n 0 (by omega),Q9 En.len]
  exact decide_eq_true (show 0+[e].length*15≤n*15+([]:List Value).length by simp;omega))
 have hw2:(putRow (w.alloc (.cells (sq En.enc (List.replicate n enZ) []) 107)) w.heap.size 0 (cat En.enc [e]).toArray).heap[w.heap.size]? =some (.cells (sq En.enc (repE e n 1) []) 107 (0,0)):=by
  rw [Qc _ _ _ _ _ (by
   rw [hz,Qe,JD En.len,repE_len e n 0 (by omega)]
   refine decide_eq_true (show 0+(cat En.enc [e]).toArray.size≤n*15+([]:List Value).length from ?_)
   rw [List.size_toArray,Q9 En.len];simp;omega),if_pos rfl,hz]
  have:=repE_put e n 0 1 (by omega) 107 (0,0)
  simpa using this
 have HC2:=Vh (c1.putRow w.heap.size 0 (cat En.enc [e]).toArray (.inr (Nat.le_refl _)))
 have HW2:=Vh hw2
 clear hb hz c1 hw2
 go_enter Tryz.func76,Tryz.ntmps76
 try dsimp only [List.append]
 go_wp2_with (first |(go_at_call 99;refine (mul_one n hn _).mono ?_;rintro e w' ⟨rfl,rfl⟩))
 have HLE:=Vh (Nat.le_refl w.heap.size)
 generalize hb2:w.heap.size=b2 at hcp HC2 HW2 HLE ⊢
 have HB2:=Vh hb2
 generalize putRow (w.alloc (.cells (sq En.enc (List.replicate n enZ) []) 107)) b2 0 (cat En.enc [e]).toArray=w3 at HC2 HW2 ⊢
 clear hcp hb2
 go_loopw [8] (fun ix wr=>∃k:Nat,1≤k∧k≤n∧ix=.int .i64 k∧wr.heap[b2]? =some (.cells (sq En.enc (repE e n k) []) 107 (0,0))∧Chg [] w wr) (fun ix _=>n-(intOf ix).toNat)
 case atStart=>exact ⟨1,by omega,h1,rfl,HW2.out,HC2.out⟩
 case round=>
  obtain ⟨k,hk1,hkn,rfl,hk,hck⟩:=hrel
  by_cases hlt:k<n
  ·have q1:(k:Int)<(n:Int):=by omega
   have HCK:=Vh hck
   have HK:=Vh hk
   have s1:=fun W=>slR_from W b2 n k hlt
   have s2:=fun W=>slR_to W b2 n k hkn
   obtain ⟨j,hj⟩:∃j,min k (n-k)=j:=⟨_,rfl⟩
   have hj1:1≤j∧k+j≤n:=by omega
   have hjk:j≤k:=by omega
   have hwr:wrap64 ((k:Int)+(j:Int))=((k+j:Nat):Int):=by unfold wrap64;omega
   have hro:ZX ((wr.drew).heap[b2]?) (k*15) (cat En.enc (List.replicate j e)).length=true:=by
    rw [Qk,hk,Qe,JD En.len,repE_len e n k hkn,Q9 En.len,List.length_replicate]
    refine decide_eq_true (show k*15+j*15≤n*15+([]:List Value).length from ?_)
    simp;omega
   have hcp:=ent_copyS wr.drew b2 0 n j (n-k) (n-k) k (some ⟨b2,0,none⟩) (k*15) (List.replicate j e) hj ⟨by rw [Q9 En.len,List.length_replicate],.inr ⟨b2,0,_,_,_,rfl,hk,by
    rw [YF,List.append_nil,List.drop_zero,Qf0 En.len]
    unfold repE
    rw [List.take_append_of_le_length (by simp;omega),List.take_replicate,Nat.min_eq_left hjk]⟩⟩ hro
   have hw4:(putRow wr.drew b2 (k*15) (cat En.enc (List.replicate j e)).toArray).heap[b2]? =some (.cells (sq En.enc (repE e n (k+j)) []) 107 (0,0)):=by
    rw [Qc _ _ _ _ _ (by rw [List.size_toArray];exact hro),if_pos rfl,Qk,hk]
    exact repE_put e n k j hj1.2 _ _
   have HW4:=Vh hw4
   have HJ:=Vh hj1
   have HC4:=Vh (hck.drew.putRow b2 (k*15) (cat En.enc (List.replicate j e)).toArray (.inr (by rw [HB2.out];exact Nat.le_refl _)))
   have HWR:=Vh hwr
   clear hk hck hj hj1 hjk hro hw4 hwr
   go_wp2_with fail
   go_region
   all_goals
    go_wp2_with fail
    go_roundw
    case rel=>exact ⟨k+j,by have:=HJ.out;omega,HJ.out.2,by rw [HWR.out],HW4.out,HC4.out⟩
    case measure=>have:=HJ.out;rw [HWR.out];simp only [intOf];omega
  ·obtain rfl:k=n:=by omega
   have HK:=Vh hk
   have HCK:=Vh hck
   clear hk hck
   go_wp2_with fail
   go_ret
   refine ⟨b2,rfl,?_,by rw [HB2.out];exact Nat.le_refl _,HCK.out⟩
   rw [←repE_all]
   exact HK.out
end
section
def zp (o:Option Nat):List Value:=[.pointer (o.map fun g=>⟨g,0,none⟩),.slice none 0 0,.slice none 0 0,.slice none 0 0,.slice none 0 0,.slice none 0 0,.slice none 0 0]
theorem zp_len (o:Option Nat):(zp o).length=7:=rfl
theorem port_info:(Tryz.prog.info? 162).map (fun i=>(i.zero,i.size,i.bytes))=some (some (.agg (zp none).toArray),7,152):=by kernel_rfl
theorem run_make_ports (w:World) (n:Nat) (hn:n≤64):mkR Tryz.prog 93 (.int .i64 n) (.int .i64 n) w=.ok (.slice (some ⟨w.heap.size,0,none⟩) n n) (w.alloc (.cells (sq zp (List.replicate n none) []) 162)):=by
 obtain ⟨i0,hi0,hz0,hz1,hz2⟩:=info_parts port_info
 have:=run_make (P:=Tryz.prog) w 93 162 i0 _ Tryz.underlying93 hi0 hz0 .i64 .i64 n n (by omega) (by omega) (by rw [hz2];omega) (by omega)
 simp only [Int.toNat_natCast,hz1] at this
 rw [←made_sq zp_len (by decide)]
 exact this
abbrev Trip:=Nat×Nat×Nat
def Qge (gs:List Trip) (n:Nat):List (Option Nat):=gs.map (fun y=>some y.1)++List.replicate (n-gs.length) none
theorem rowsZ_nil (n:Nat):Qge [] n=List.replicate n none:=by simp [Qge]
theorem rowsZ_at (gs:List Trip) (n:Nat) (h:gs.length<n):(Qge gs n)[gs.length]? =some none:=by
 unfold Qge
 rw [List.getElem?_append_right (by simp),List.length_map,Nat.sub_self,List.getElem?_replicate,if_pos (by omega)]
theorem rowsZ_set (gs:List Trip) (n:Nat) (y:Trip) (h:gs.length<n):(Qge gs n).set gs.length (some y.1)=Qge (gs++[y]) n:=by
 unfold Qge
 rw [List.set_append_right _ _ (by simp),List.length_map,Nat.sub_self,show n-gs.length=(n-(gs++[y]).length)+1 by simp;omega,List.replicate_succ,List.set_cons_zero,List.map_append]
 simp
def Qhw (gs:List Trip):List Nat:=gs.flatMap fun y=>[y.1,y.2.1,y.2.2]
theorem trips_snoc (gs:List Trip) (y:Trip):Qhw (gs++[y])=Qhw gs++[y.1,y.2.1,y.2.2]:=by simp [Qhw]
def st0 (c:Cg):Sta:=(List.replicate (c.se*c.wa) sltZ,0)
def pt0 (c:Cg):Pt:=⟨st0 c,[],[],[]⟩
def mkPo (po:Nat) (y:Trip):Po:=⟨y.1,y.2.1,y.2.2,po,none,0,po,none,0,po,none,0⟩
theorem mkPo_foot (po:Nat) (y:Trip):(mkPo po y).foot po=[y.1,y.2.1,y.2.2]:=by simp [Po.foot,mkPo,opt]
theorem Agt.weak {W w0 w:World} {g a b S N:Nat} {s:Sta} (h:Agt w0 w g a b S N s) (hc:Chg [] W w0):Agt W w g a b S N s:=
 ⟨⟨hc.trans h.1.1,h.1.2.1,Nat.le_trans hc.size h.1.2.2.1,Nat.le_trans hc.size h.1.2.2.2⟩,h.2.1,Nat.le_trans hc.size h.2.2.1,h.2.2.2⟩
theorem sq_oneE (e:En):sq En.enc [e] []=ec e:=by simp [sq,cat,ec]
theorem cat_map {α β:Type} (enc:β→List Value) (f:α→β) (xs:List α):cat enc (xs.map f)=cat (fun a=>enc (f a)) xs:=by unfold cat;rw [List.map_map];rfl
def Qcg (po:Nat) (c:Cg) (gs:List Trip):List (Po×Pt):=gs.map fun y=>(mkPo po y,pt0 c)
theorem portsOf_sq (po:Nat) (c:Cg) (gs:List Trip) (n:Nat) (h:gs.length=n):sq zp (Qge gs n) []=sq penc (Qcg po c gs) []:=by
 unfold sq Qge Qcg
 simp only [h,Nat.sub_self,List.replicate_zero,List.append_nil,cat_map]
 rfl
theorem Qgx (po:Nat) (c:Cg) (gs:List Trip):feet po (Qcg po c gs)=Qhw gs:=by
 unfold feet Qcg Qhw
 rw [List.map_map,List.flatMap_def]
 congr 1
 apply List.map_congr_left
 intro y _
 exact mkPo_foot po y
theorem portsOf_ports (po:Nat) (c:Cg) (gs:List Trip):ports (Qcg po c gs)=List.replicate gs.length (pt0 c):=by
 unfold ports Qcg
 rw [List.map_map]
 exact List.map_const'
structure Cg.Ok (c:Cg):Prop where
 co1:1≤c.co
 co8:c.co≤8
 li2:2≤c.li
 li64:c.li≤64
 vo1:1≤c.vo
 vol:c.vo<c.li
 new:Qb1 (c.se:Int) (c.wa:Int)
 qu1:1≤c.qu
 qu16:c.qu≤16
 st1:1≤c.st
 st16:c.st≤16
def Fresh (W w:World) (c:Cg) (sy:Nat) (C:Array Value) (w':World):Prop:=
 ∃po en L,w'.heap[sy]? =some (.cells ((C.setIfInBounds 8 (.slice (some ⟨po,0,none⟩) c.co c.co)).setIfInBounds 9 (.slice (some ⟨en,0,none⟩) c.li c.li)) 103 (0,0))∧
  w'.heap[po]? =some (.cells (sq penc L []) 162 (0,0))∧L.length=c.co∧w'.heap[en]? =some (.cells (sq En.enc (List.replicate c.li enE) []) 107 (0,0))∧(∀y∈L,PortOk W w' po c.se c.wa y)∧
  ports L=List.replicate c.co (pt0 c)∧(po::en::feet po L).Nodup∧(∀k∈po::en::feet po L,w.heap.size≤k)∧Chg [sy] w w'
theorem Qij (W w:World) (c:Cg) (hc:c.Ok) (sy:Nat) (C:Array Value) (hW:Chg [] W w) (hsW:W.heap.size≤sy) (hs:w.heap[sy]? =some (.cells C 103 (0,0))) (c0:C[0]? =some (.int .i64 c.co)) (c1:C[1]? =some (.int .i64 c.li)) (c3:C[3]? =some (.int .i64 c.se)) (c4:C[4]? =some (.int .i64 c.wa))
 (v8 v9:Value) (c8:C[8]? =some v8) (c9:C[9]? =some v9):Calls Tryz.prog 45 #[.pointer (some ⟨sy,0,none⟩)] w fun e w'=>e=.returned (.tuple #[])∧Fresh W w c sy C w':=by
 have hmk:=fun W=>run_make_ports W c.co (by have:=hc.co8;omega)
 have HC:=Vh hc
 have HW:=Vh hW
 have HSW:=Vh hsW
 have H9:=Vh c9
 have H8:=Vh c8
 have os:=old hs
 have nsz:sy≠w.heap.size:=by have:=os.lt;omega
 have nsz':w.heap.size≠sy:=Ne.symm nsz
 have HS0:=Vh hs
 have gco:(c.co:Int)≤8:=by have:=hc.co8;omega
 clear hc hW hsW
 go_enter Tryz.func45,Tryz.ntmps45
 try dsimp only [List.append]
 go_upto_region 1 with fail
 have rS:((w.alloc (.cells (sq zp (List.replicate c.co none) []) 162)).setCell ⟨sy,8,none⟩ (.slice (some ⟨w.heap.size,0,none⟩) c.co c.co)).heap[sy]? =some (.cells (C.setIfInBounds 8 (.slice (some ⟨w.heap.size,0,none⟩) c.co c.co)) 103 (0,0)):=by
  rw [heap_setCell,if_pos rfl,heap_alloc,hs];rfl
 have rP:((w.alloc (.cells (sq zp (List.replicate c.co none) []) 162)).setCell ⟨sy,8,none⟩ (.slice (some ⟨w.heap.size,0,none⟩) c.co c.co)).heap[w.heap.size]? =some (.cells (sq zp (Qge [] c.co) []) 162 (0,0)):=by
  rw [heap_setCell,if_neg nsz',rowsZ_nil];exact Qbz _ _
 have K1:=Vh (((Chg.refl [sy] w).alloc (.cells (sq zp (List.replicate c.co none) []) 162)).setCell sy 8 (.slice (some ⟨w.heap.size,0,none⟩) c.co c.co) (.inl (by simp)))
 have d0:(C.setIfInBounds 8 (.slice (some ⟨w.heap.size,0,none⟩) c.co c.co))[0]? =some (.int .i64 c.co):=Qbw c0 (by decide)
 have d1:(C.setIfInBounds 8 (.slice (some ⟨w.heap.size,0,none⟩) c.co c.co))[1]? =some (.int .i64 c.li):=Qbw c1 (by decide)
 have d3:(C.setIfInBounds 8 (.slice (some ⟨w.heap.size,0,none⟩) c.co c.co))[3]? =some (.int .i64 c.se):=Qbw c3 (by decide)
 have d4:(C.setIfInBounds 8 (.slice (some ⟨w.heap.size,0,none⟩) c.co c.co))[4]? =some (.int .i64 c.wa):=Qbw c4 (by decide)
 have d8:(C.setIfInBounds 8 (.slice (some ⟨w.heap.size,0,none⟩) c.co c.co))[8]? =some (.slice (some ⟨w.heap.size,0,none⟩) c.co c.co):=set_this c8
 have d9:=Vh (show (C.setIfInBounds 8 (.slice (some ⟨w.heap.size,0,none⟩) c.co c.co))[9]? =some v9 from Qbw c9 (by decide))
 have HPO:=Vh (Nat.le_refl w.heap.size)
 have HSY:=Vh os.lt
 generalize hpo:w.heap.size=po at rS rP K1 d0 d1 d3 d4 d8 d9 nsz nsz' HPO HSY ⊢
 have HB:=Vh hpo
 generalize hC8:C.setIfInBounds 8 (.slice (some ⟨po,0,none⟩) c.co c.co)=C8 at rS d0 d1 d3 d4 d8 d9
 have HC8:=Vh hC8
 generalize (w.alloc (.cells (sq zp (List.replicate c.co none) []) 162)).setCell ⟨sy,8,none⟩ (.slice (some ⟨po,0,none⟩) c.co c.co)=w1 at rS rP K1 ⊢
 clear hpo hC8 hs os c0 c1 c3 c4 c8 c9 hmk
 go_wp2_with fail
 have hp1:po<w1.heap.size:=Z6 rP
 go_loopw [17] (fun ix wr=>∃gs:List Trip,gs.length≤c.co∧ix=.int .i64 gs.length∧wr.heap[sy]? =some (.cells C8 103 (0,0))∧wr.heap[po]? =some (.cells (sq zp (Qge gs c.co) []) 162 (0,0))∧
  (∀y∈gs,Agt W wr y.1 y.2.1 y.2.2 c.se c.wa (st0 c))∧(Qhw gs).Nodup∧(∀x∈Qhw gs,po<x∧x<wr.heap.size)∧Chg [sy] w wr) (fun ix _=>c.co-(intOf ix).toNat)
 case atStart=>exact ⟨[],by simp,rfl,rS,rP,by simp,by simp [Qhw],by simp [Qhw],K1.out⟩
 case round=>
  clear rS rP hp1
  obtain ⟨gs,hg,rfl,rS,rP,hag,hnd,hlt,hch⟩:=hrel
  have HAG:=Vh hag
  have HND:=Vh hnd
  have HLT:=Vh hlt
  have HCH:=Vh hch
  clear hag hnd hlt hch
  obtain ⟨k,hk⟩:∃k,gs.length=k:=⟨_,rfl⟩
  have HKK:=Vh hk
  rw [hk] at hg ⊢
  clear hk
  by_cases hlk:k<c.co
  ·have g1:(k:Int)<(c.co:Int):=by omega
   have g0:(0:Int)≤(k:Int):=by omega
   have hnew:=gnew_ok c.se c.wa wr wr.drew (Chg.refl [] wr).drew HC.out.new
   have HN:=Vh hnew
   have RP:=Vh rP
   have hz:(sq zp (Qge gs c.co) [])[k*7]? =some (.pointer none):=by
    have h1:=rowsZ_at gs c.co (by rw [HKK.out];exact hlk)
    rw [HKK.out] at h1
    exact JU zp_len h1 [] 0 (by decide)
   have oS:=old rS
   have oP:=old rP
   clear hnew
   go_wp2_with fail
   go_region_held3 (fun w'=>w'.heap[sy]? =some (.cells C8 103 (0,0)))
    (first |(rw [heap_setCell,if_neg nsz];exact s5)|exact s5|exact rS)
    (first |(go_at_call 75;refine HN.out.mono ?_;rintro e w' ⟨g,a,b,rfl,hA5,hc5⟩;have s5:=hc5.keep rS Vn;have p5:=hc5.keep rP Vn;have o5:=old p5;have os5:=old s5))
   all_goals
    have hk0:=HKK.out
    have hlk':gs.length<c.co:=by rw [hk0];exact hlk
    have cp:Chg [po] w' (w'.setCell ⟨po,k*7,none⟩ (.pointer (some ⟨g,0,none⟩))):=(Chg.refl [po] w').setCell po (k*7) _ (.inl (by simp))
    have s6:(w'.setCell ⟨po,k*7,none⟩ (.pointer (some ⟨g,0,none⟩))).heap[sy]? =some (.cells C8 103 (0,0)):=by rw [heap_setCell,if_neg nsz];exact s5
    have p6:(w'.setCell ⟨po,k*7,none⟩ (.pointer (some ⟨g,0,none⟩))).heap[po]? =some (.cells (sq zp (Qge (gs++[(g,a,b)]) c.co) []) 162 (0,0)):=by
     rw [heap_setCell,if_pos rfl,p5,Qf]
     have h1:=rowsZ_at gs c.co hlk'
     have h2:=sq_put (o:=0) (b:=some g) (v:=.pointer (some ⟨g,0,none⟩)) zp_len h1 (by decide) rfl
     rw [rowsZ_set gs c.co (g,a,b) hlk',hk0,Nat.add_zero] at h2
     rw [h2]
    have hWr:Chg [] W wr:=HW.out.trans' HCH.out (fun x hx=>.inr (by rw [Vs hx];exact HSW.out))
    have hpW:W.heap.size≤po:=by rw [←HB.out];exact HW.out.size
    have hl2:=hA5.old2
    have hl1:=Z6 hA5.2.1
    have hlg:=hA5.2.2.1
    have hla:=hA5.1.2.2
    have hgn:=hA5.2.2.2.1
    have hab:=hA5.1.2.1.2.2.1
    have hpr:=oP.lt
    have hcs:wr.heap.size≤w'.heap.size:=hc5.size
    have hsz6:(w'.setCell ⟨po,k*7,none⟩ (.pointer (some ⟨g,0,none⟩))).heap.size=w'.heap.size:=by simp
    simp only [List.mem_cons,Vn,or_false,forall_eq_or_imp,forall_eq] at hl2 hgn
    have HG6:=Vh (show ∀y∈gs++[(g,a,b)],Agt W (w'.setCell ⟨po,k*7,none⟩ (.pointer (some ⟨g,0,none⟩))) y.1 y.2.1 y.2.2 c.se c.wa (st0 c) by
     have hpl:∀x∈[po],W.heap.size≤x:=fun x hx=>by rw [Vs hx];exact hpW
     intro y hy
     rcases List.mem_append.1 hy with h1|h1
     ·have hin:∀x,x∈[y.1,y.2.1,y.2.2]→x∉[po]:=by
       intro x hx hm
       have h2:=(HLT.out x (List.mem_flatMap.2 ⟨y,h1,hx⟩)).1
       rw [Vs hm] at h2
       omega
      exact (((HAG.out y h1).keep (Chg.refl [] wr).drew).keep hc5).keepL cp hpl (hin _ (by simp)) (hin _ (by simp)) (hin _ (by simp))
     ·rw [Vs h1]
      exact (hA5.weak hWr).keepL cp hpl (by simp;omega) (by simp;omega) (by simp;omega))
    have HN6:=Vh (show (Qhw (gs++[(g,a,b)])).Nodup by
     rw [trips_snoc,List.nodup_append]
     refine ⟨HND.out,by simp;omega,?_⟩
     intro x hx y hy e
     subst e
     have h2:=(HLT.out x hx).2
     simp only [List.mem_cons,Vn,or_false] at hy
     omega)
    have HL6:=Vh (show ∀x∈Qhw (gs++[(g,a,b)]),po<x∧x<(w'.setCell ⟨po,k*7,none⟩ (.pointer (some ⟨g,0,none⟩))).heap.size by
     intro x hx
     rw [hsz6]
     rw [trips_snoc,List.mem_append] at hx
     rcases hx with h1|h1
     ·have:=HLT.out x h1;omega
     ·simp only [List.mem_cons,Vn,or_false] at h1
      omega)
    have HC6:=Vh ((HCH.out.trans (((Chg.refl [] wr).drew.trans hc5).mono (by simp))).setCell po (k*7) (.pointer (some ⟨g,0,none⟩)) (.inr (by rw [HB.out];exact Nat.le_refl _)))
    have hlen:(gs++[(g,a,b)]).length=k+1:=by simp [hk0]
    have S6:=Vh s6
    have P6:=Vh p6
    have HLN:=Vh hlen
    clear s5 p5 o5 os5 hA5 hc5 hk0 hlk' cp s6 p6 hWr hpW hl2 hl1 hlg hla hgn hab hpr hcs hsz6 hlen
    generalize w'.setCell ⟨po,k*7,none⟩ (.pointer (some ⟨g,0,none⟩))=w6 at *
    go_wp2_with fail
    go_roundw
    case rel=>exact ⟨gs++[(g,a,b)],by rw [HLN.out];omega,by rw [HLN.out];go_num,S6.out,P6.out,HG6.out,HN6.out,HL6.out,HC6.out⟩
    case measure=>simp [intOf];omega
  ·obtain rfl:k=c.co:=by omega
   have oS:=old rS
   have RP:=Vh rP
   have e9:=d9.out
   have s0:Qc1 (wr.heap[sy]?) 1=some (.int .i64 c.li):=by rw [rS,Qb];exact d1
   clear rP
   go_wp2_with fail
   go_region_held3 (fun w'=>Qc1 (w'.heap[sy]?) 1=some (.int .i64 c.li))
    (first |(rw [heap_setCell,if_pos rfl,s6,Qf,Qb];exact Qbw d1 (by decide))|(rw [s6,Qb];exact d1)|(rw [((Chg.refl [] _).alloc _).keep s5 Vn,Qb];exact d1)|(rw [s5,Qb];exact d1)|exact s0)
    (first
     |(go_at_call 70;refine (Qek _).mono ?_;rintro e w' ⟨rfl,c5⟩;have T5:=(Chg.refl [] wr).drew.trans c5;have s5:=T5.keep rS Vn)
     |(go_at_call 76;refine (repeat_ok enE _ c.li _ (by rw [sq_oneE];exact Qbz _ _) (by have:=HC.out.li2;omega) HC.out.li64).mono ?_;rintro e w' ⟨b9,rfl,e9b,l9,c6⟩;have T6:=(T5.alloc (.cells (ec enE) 107)).trans c6;have s6:=T6.keep rS Vn;have os6:=old s6))
   all_goals
    have hk0:=HKK.out
    have hpW:W.heap.size≤po:=by rw [←HB.out];exact HW.out.size
    have hcw:wr.heap.size≤w'.heap.size:=T6.size
    have hpo9:po<b9:=by have h1:=Z6 RP.out;have h2:=T5.size;simp at l9;omega
    have hsy9:sy<b9:=by have h1:=HSY.out;omega
    have hl9:wr.heap.size≤b9:=by have h2:=T5.size;simp at l9;omega
    have cs:Chg [sy] w' (w'.setCell ⟨sy,9,none⟩ (.slice (some ⟨b9,0,none⟩) c.li c.li)):=(Chg.refl [sy] w').setCell sy 9 _ (.inl (by simp))
    have q1:(w'.setCell ⟨sy,9,none⟩ (.slice (some ⟨b9,0,none⟩) c.li c.li)).heap[sy]? =some (.cells ((C.setIfInBounds 8 (.slice (some ⟨po,0,none⟩) c.co c.co)).setIfInBounds 9 (.slice (some ⟨b9,0,none⟩) c.li c.li)) 103 (0,0)):=by
     rw [heap_setCell,if_pos rfl,s6,Qf,HC8.out]
    have q2:(w'.setCell ⟨sy,9,none⟩ (.slice (some ⟨b9,0,none⟩) c.li c.li)).heap[po]? =some (.cells (sq penc (Qcg po c gs) []) 162 (0,0)):=by
     rw [←portsOf_sq po c gs c.co hk0]
     exact cs.keep (T6.keep RP.out (by simp)) (by simpa using Ne.symm nsz)
    have q3:(w'.setCell ⟨sy,9,none⟩ (.slice (some ⟨b9,0,none⟩) c.li c.li)).heap[b9]? =some (.cells (sq En.enc (List.replicate c.li enE) []) 107 (0,0)):=cs.keep e9b (by simp;omega)
    have HF:=Vh (show Fresh W w c sy C (w'.setCell ⟨sy,9,none⟩ (.slice (some ⟨b9,0,none⟩) c.li c.li)) by
     refine ⟨po,b9,Qcg po c gs,q1,q2,by simp [Qcg,hk0],q3,?_,by rw [portsOf_ports,hk0],?_,?_,?_⟩
     ·intro y hy
      unfold Qcg at hy
      obtain ⟨y0,hy0,rfl⟩:=List.mem_map.1 hy
      have hin:∀x,x∈[y0.1,y0.2.1,y0.2.2]→x∉[sy]:=by
       intro x hx hm
       have h2:=(HLT.out x (List.mem_flatMap.2 ⟨y0,hy0,hx⟩)).1
       have h3:=HSY.out
       rw [Vs hm] at h2
       omega
      refine ⟨((HAG.out y0 hy0).keep T6).keepL cs (fun x hx=>by rw [Vs hx];exact HSW.out) (hin _ (by simp)) (hin _ (by simp)) (hin _ (by simp)),.inl ⟨rfl,rfl,rfl,rfl⟩,.inl ⟨rfl,rfl,rfl,rfl⟩,.inl ⟨rfl,rfl,rfl,rfl⟩⟩
     ·rw [Qgx,List.nodup_cons,List.nodup_cons]
      refine ⟨?_,?_,HND.out⟩
      ·intro hm
       rcases List.mem_cons.1 hm with h1|h1
       ·omega
       ·have:=(HLT.out _ h1).1;omega
      ·intro hm
       have:=(HLT.out _ hm).2;omega
     ·rw [Qgx]
      intro x hx
      rw [HB.out]
      rcases List.mem_cons.1 hx with h1|h1
      ·omega
      ·rcases List.mem_cons.1 h1 with h1|h1
       ·omega
       ·have:=(HLT.out x h1).1;omega
     ·exact (HCH.out.trans (T6.mono (by simp))).trans cs)
    clear cs q1 q2 q3 s5 s6 os6 T5 T6 c5 c6
    go_wp2_with fail
    go_end0
    exact ⟨rfl,HF.out⟩
end
end Go.Proofs.YtlidfghgjjffaaaGreatDoor
