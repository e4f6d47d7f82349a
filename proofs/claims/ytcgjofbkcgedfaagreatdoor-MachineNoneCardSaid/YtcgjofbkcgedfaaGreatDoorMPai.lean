/- Texts of the walk, one behind the other: Mfc Mfd Mfe Mff Mfg Mfh Mfi Mfj. No condition. -/
import Derived.Test.YtcgjofbkcgedfaaGreatDoorMPaa
import Derived.Test.YtcgjofbkcgedfaaGreatDoorMPah
import Derived.BigQuiet
import Derived.Deep.Cut
import Derived.Deep.CutBlock
import Derived.Deep.CutRange
import Derived.Deep.DeepCutAuto
import Derived.Deep.QuietTactic
import Derived.Deep.RegionHeld3
import Derived.Deep.RegionWith
namespace Go.Proofs.YtcgjofbkcgedfaaGreatDoor
open Go.RowKit
set_option linter.unusedVariables false
set_option maxHeartbeats 1000000
set_option maxRecDepth 100000
attribute [local go_sem ↓] Qv QF Qy QO QE Qs Zg Q6 ZF Zu Qk Qh heap_alloc Ql heap_setCell Qc XG XJ XI Zi ZK Zt Xc ZL Xm Xl Xr Xq
attribute [local go_sem] Qb Qa Qd Qi Qe Qg Qf Qt Zk Zf ZD QB Qw QN QL QM Q5 QK QA Qr QD QW QJ Qq QC Qp Qj Qo Qn Qm Zj Zv lit8 QS Z2 ZE ZG ZN Zn ZH Xb ZI QH ZJ Zy Zz QV QU Za Xs
attribute [local simp ↓] Qk Qh heap_alloc Ql heap_setCell Qc
attribute [local simp] Qb Qa Qd Qi Qe Qg Qf Qt Qr Qj Qo Qn Qm QS QH QV QU Za QD
attribute [local go_sem ↓] Qa0 Qa1 Qaz Qay Qa3 Qa2 Qax Qa6
attribute [local go_sem] Jb Qaw Ja XN XR Zh Jo X5 Qa9 Z1 Zp Zo Zm Zr Zq Zl Ze Zd ZC ZB Jk X1
attribute [local simp] Zh ZB Zp Zo Zm Zr Zq Zl Ze Zd ZC
attribute [local go_sem ↓] Jn X0 Jm XZ X9
attribute [local go_sem] Ji Jh X4 Jj QR QT Yp
attribute [local simp] X9 QR QT QD Z1
attribute [local go_sem ↓] Yx Y4 Y5 J8
attribute [local simp] Yx
section
theorem zenc_k {z:Lay} {c:Cg} {o:Nat} {k:Int} (h0:10≤o) (h:z.ks[o-10]? =some k):(z.enc c).toArray[o]? =some (.int .u64 k):=by
 unfold Lay.enc
 rw [List.getElem?_toArray,List.getElem?_append_right (by simp [Cg.enc];omega),show (c.enc++[Value.pointer (some ⟨z.q,0,none⟩),Value.slice (some ⟨z.po,0,none⟩) c.co c.co,Value.slice (some ⟨z.en,0,none⟩) c.li c.li]).length=10 by simp [Cg.enc],List.getElem?_map,h]
 rfl
theorem zenc_put {z:Lay} {c:Cg} {o:Nat} {k:Int} (h0:10≤o):(z.enc c).toArray.setIfInBounds o (.int .u64 k)=(({z with ks:=z.ks.set (o-10) k}:Lay).enc c).toArray:=by
 unfold Lay.enc
 rw [List.setIfInBounds_toArray,List.set_append_right _ _ (by simp [Cg.enc];omega),show (c.enc++[Value.pointer (some ⟨z.q,0,none⟩),Value.slice (some ⟨z.po,0,none⟩) c.co c.co,Value.slice (some ⟨z.en,0,none⟩) c.li c.li]).length=10 by simp [Cg.enc],List.map_set]
section
variable {W:World} {c:Cg} {z:Lay} {L:List (Po×Pt)} {en:List En} {es:List Ent} {xs:List Int}
theorem Msd.count {w:World} (h:Msd W w c z L en es xs) (o:Nat) (h0:10≤o) (h1:o<16):Calls Tryz.prog 126 #[.pointer (some ⟨z.sy,o,none⟩),.int .u64 1] w fun e w'=>(∃v,e=.returned v)∧∃ks',MTo W w c z L {z with ks:=ks'} L en es xs w':=by
 have hk:o-10<z.ks.length:=by rw [h.six];omega
 refine (add_any z.sy o z.ks[o-10] w _ _ h.sys (zenc_k h0 (List.getElem?_eq_getElem hk))).mono ?_
 rintro e w' ⟨rfl,rfl⟩
 have nes:z.en≠z.sy:=Ne.symm h.ne6.1.2.2.2.2
 refine ⟨⟨_,rfl⟩,z.ks.set (o-10) (IntKind.u64.wrap (z.ks[o-10]+1)),h.other (k:=z.sy) (.inl rfl) ((Chg.refl [z.sy] w).setCell z.sy o _ (.inl (by simp))) ?_ (by rw [List.length_set];exact h.six) ?_ h.lines⟩
 ·rw [heap_setCell,if_pos rfl,h.sys,Qf,zenc_put h0]
 ·rw [heap_setCell,if_neg nes];exact h.ents
theorem zdrain_off (k:Int) (w:World) (h:Msd W w c z L en es xs) (hk:inB k c.li=false):Calls Tryz.prog 97 #[.pointer (some ⟨z.sy,0,none⟩),.int .i64 k] w fun r w'=>r=.returned (.int .i64 1)∧w=w':=by
 have HH:=Vh h
 have HK:=Vh hk
 clear h hk
 go_enter Tryz.func97,Tryz.ntmps97
 try dsimp only [List.append]
 go_wp2_with (first |(go_at_call 78;refine (ZT k false HK.out _ HH.out).mono ?_;rintro e w' ⟨rfl,rfl⟩))
 go_ret
 exact ⟨rfl,rfl⟩
theorem drain_val (es:List Ent) (k:Int):Qbe es k=0∨Qbe es k=14:=by unfold Qbe;split<;>simp
theorem zdrain_ok (k:Int) (w:World) (h:Msd W w c z L en es xs) (hk:inB k c.li=true):Calls Tryz.prog 97 #[.pointer (some ⟨z.sy,0,none⟩),.int .i64 k] w fun r w'=>r=.returned (.int .i64 (Qbe es k))∧∃be' ks',MTo W w c z L {z with be:=be',ks:=ks'} L en (JW es k) (JO xs es k) w':=by
 have rS:=h.sys
 have HH:=Vh h
 have HK:=Vh hk
 have HD:=Vh (any_drain h.mem k)
 have hv:=drain_val es k
 generalize Qbe es k=v at HD hv ⊢
 clear h hk
 rcases hv with rfl|rfl
 ·skip
  go_enter Tryz.func97,Tryz.ntmps97
  try dsimp only [List.append]
  go_wp2_with (first |(go_at_call 78;refine (ZT k true HK.out _ HH.out).mono ?_;rintro e w' ⟨rfl,rfl⟩))
  refine HD.out.mono ?_
  rintro r w2 ⟨rfl,be',hs,hc,hb⟩
  have M2:=Vh (HH.out.memory hs hc hb)
  replace rS:=M2.out.1.sys
  clear hs hc hb
  go_wp2_with fail
  refine (M2.out.1.count 15 (by decide) (by decide)).mono ?_
  rintro r w3 ⟨⟨v,rfl⟩,ks',M3⟩
  have HN:=Vh (M2.out.trans M3)
  clear M3
  go_wp2_with fail
  go_ret
  exact ⟨rfl,be',ks',HN.out⟩
 ·skip
  go_enter Tryz.func97,Tryz.ntmps97
  try dsimp only [List.append]
  go_wp2_with (first |(go_at_call 78;refine (ZT k true HK.out _ HH.out).mono ?_;rintro e w' ⟨rfl,rfl⟩))
  refine HD.out.mono ?_
  rintro r w2 ⟨rfl,be',hs,hc,hb⟩
  have M2:=Vh (HH.out.memory hs hc hb)
  clear hs hc hb rS
  go_wp2_with fail
  go_ret
  exact ⟨rfl,be',z.ks,M2.out⟩
theorem zslots_ok (i:Nat) (p:Po) (x:Pt) (w:World) (h:Msd W w c z L en es xs) (hy:L[i]? =some (p,x)):Calls Tryz.prog 76 #[.pointer (some ⟨z.sy,0,none⟩),.int .i64 i] w (Qfz w (live x.s.1)):=by
 have hi:i<c.co:=by rw [←h.cores];exact (Vg hy).1
 have hk:=h.ok _ (List.mem_of_getElem? hy)
 have HG:=Vh (gslots_any w hk.1)
 have rP:=h.ports
 have c0:(sq penc L [])[i*7]? =some (.pointer (some ⟨p.g,0,none⟩)):=Qab hy 0 (by decide)
 have HH:=Vh h
 have HI:=Vh hi
 clear h hy hk hi
 go_enter Tryz.func76,Tryz.ntmps76
 try dsimp only [List.append]
 go_wp2_with (first |(go_at_call 102;refine (YY i _ HH.out HI.out).mono ?_;rintro e w' ⟨rfl,rfl⟩))
 refine HG.out.mono ?_
 rintro e w2 ⟨A,n,rfl,hs,hc⟩
 have HS:=Vh hs
 have HC:=Vh hc
 clear hs hc
 go_wp2_with fail
 go_ret
 exact ⟨A,n,rfl,HS.out,HC.out⟩
end
end
section
section
variable {W:World} {c:Cg} {z:Lay} {L:List (Po×Pt)} {en:List En} {es:List Ent} {xs:List Int}
theorem zup_none (i:Nat) (p:Po) (x:Pt) (w:World) (h:Msd W w c z L en es xs) (hy:L[i]? =some (p,x)) (hx:x.up=[]):Calls Tryz.prog 89 #[.pointer (some ⟨z.sy,0,none⟩),.int .i64 i] w fun r w'=>r=.returned (.int .i64 14)∧Chg [] w w':=by
 have hi:i<c.co:=by rw [←h.cores];exact (Vg hy).1
 have HG:=Vh (h.head_up hy (by rw [hx];simp))
 rw [hx,Qfd,show Qc9 ([]:List Ms)=false from rfl] at HG
 have HH:=Vh h
 have HI:=Vh hi
 clear h hy hi hx
 go_enter Tryz.func89,Tryz.ntmps89
 try dsimp only [List.append]
 go_wp2_with (first |(go_at_call 102;refine (YY i _ HH.out HI.out).mono ?_;rintro e w' ⟨rfl,rfl⟩))
 refine HG.out.mono ?_
 rintro r w2 ⟨rfl,c2⟩
 have HC:=Vh c2
 clear c2
 go_wp2_with fail
 go_ret
 exact ⟨rfl,HC.out.alloc _⟩
theorem Qbm (w:World) (o:Obj):(w.alloc o).heap[w.heap.size]? =some o:=by simp
theorem Qe0 {w:World} {b:Nat} (h:Old w b):¬b=w.heap.size:=by have:=h.lt;omega
def NewZ (W w:World) (c:Cg) (z z':Lay) (L:List (Po×Pt)) (en:List En) (es:List Ent) (xs:List Int) (b3:Nat) (m:Ms) (e':En) (ds:List Sd) (v:Int) (p s y:Value) (wx:World):Prop:=
 ∃b8 A na,p=.pointer (some ⟨b8,0,none⟩)∧s=.slice A ds.length na∧y=.int .i64 v∧wx.heap[b8]? =some (.cells (ec e') 120 (0,0))∧wx.heap[b3]? =some (.cells (msc m) 196 (0,0))∧Sl wx 13 A ds.length (cat Sd.enc ds)∧
  (∀a,A=some a→w.heap.size≤a.block∧a.block∉z'.all L)∧(w.heap.size≤b8∧b8∉z'.all L)∧b3∉z'.all L∧MTo W w c z L z' L en es xs wx
section
variable {w w5 w6:World} {z':Lay} {b3:Nat} {m:Ms} {e':En} {ds:List Sd} {v:Int} {A:Option Addr} {na:Nat}
theorem NewZ.put {b8:Nat} (hWw:W.heap.size≤w.heap.size) (n3:b3∉z'.all L) (P:MTo W w c z L z' L en es xs w6) (r8:w6.heap[b8]? =some (.cells (ec enZ) 120 (0,0))) (r3:w6.heap[b3]? =some (.cells (msc m) 196 (0,0))) (h8:w.heap.size≤b8) (n8:b8∉z'.all L) (h38:b8≠b3)
 (hs:Sl w6 13 A ds.length (cat Sd.enc ds)) (hA:∀a,A=some a→w.heap.size≤a.block∧a.block∉z'.all L∧a.block≠b8):NewZ W w c z z' L en es xs b3 m e' ds v (.pointer (some ⟨b8,0,none⟩)) (.slice A ds.length na) (.int .i64 v) (putRow w6 b8 0 (ec e')):=by
 have hh:ZO (w6.heap[b8]?) 0 (ec e').size=true:=by rw [r8,Qd,Zh,Zh];decide
 have cp:Chg [b8] w6 (putRow w6 b8 0 (ec e')):=(Chg.refl [b8] w6).putRow b8 0 _ (.inl (by simp))
 refine ⟨b8,A,na,rfl,rfl,rfl,?_,cp.keep r3 (by simpa using Ne.symm h38),hs.chg cp (fun a ha=>by simpa using (hA a ha).2.2),fun a ha=>⟨(hA a ha).1,(hA a ha).2.1⟩,⟨h8,n8⟩,n3,P.loc cp ?_⟩
 ·rw [Qc _ _ _ _ _ hh,if_pos rfl,r8,Qg _ _ _ _ (by rw [Zh,Zh])]
 ·intro k hk
  rw [List.mem_singleton] at hk
  subst hk
  exact ⟨Nat.le_trans hWw h8,h8,n8⟩
theorem NewZ.putA {b8:Nat} (hWw:W.heap.size≤w.heap.size) (n3:b3∉z'.all L) (P:MTo W w c z L z' L en es xs w5) (hc:Chg [] w5 w6) (r8:w5.heap[b8]? =some (.cells (ec enZ) 120 (0,0))) (r3:w5.heap[b3]? =some (.cells (msc m) 196 (0,0))) (h8:w.heap.size≤b8) (n8:b8∉z'.all L) (h38:b8≠b3)
 (hs:Sl w6 13 A ds.length (cat Sd.enc ds)) (hA:∀a,A=some a→w5.heap.size≤a.block):NewZ W w c z z' L en es xs b3 m e' ds v (.pointer (some ⟨b8,0,none⟩)) (.slice A ds.length na) (.int .i64 v) (putRow w6 b8 0 (ec e')):=by
 refine NewZ.put hWw n3 (P.trans (P.1.stay hc)) (hc.keep r8 (by simp)) (hc.keep r3 (by simp)) h8 n8 h38 hs fun a ha=>?_
 have h1:=hA a ha
 have h2:=Xe r8
 exact ⟨Nat.le_trans P.2.1.size h1,fun hm=>by have:=P.1.old _ hm;omega,by omega⟩
theorem NewZ.putB {o:Obj} (hWw:W.heap.size≤w.heap.size) (n3:b3∉z'.all L) (P:MTo W w c z L z' L en es xs w5) (hc:Chg [] (w5.alloc (.cells (ec enZ) 120)) w6) (r3:w5.heap[b3]? =some (.cells (msc m) 196 (0,0)))
 (hs:Sl w6 13 A ds.length (cat Sd.enc ds)) (hA:∀a,A=some a→(w5.alloc o).heap.size≤a.block):NewZ W w c z z' L en es xs b3 m e' ds v (.pointer (some ⟨w5.heap.size,0,none⟩)) (.slice A ds.length na) (.int .i64 v) (putRow w6 w5.heap.size 0 (ec e')):=by
 have P2:=P.trans (P.1.stay ((Chg.refl [] w5).alloc (.cells (ec enZ) 120)))
 have n8:w5.heap.size∉z'.all L:=fun hm=>by have:=P.1.old _ hm;omega
 refine NewZ.putA hWw n3 P2 hc (by simp) (((Chg.refl [] w5).alloc _).keep r3 (by simp)) P.2.1.size n8 (by have:=Xe r3;omega) hs fun a ha=>?_
 have h1:=hA a ha
 simpa using h1
theorem NewZ.putC (hWw:W.heap.size≤w.heap.size) (n3:b3∉z'.all L) (P:MTo W w c z L z' L en es xs w5) (hc:Chg [] w5 w6) (r3:w5.heap[b3]? =some (.cells (msc m) 196 (0,0)))
 (hs:Sl w6 13 A ds.length (cat Sd.enc ds)) (hA:∀a,A=some a→w5.heap.size≤a.block):NewZ W w c z z' L en es xs b3 m e' ds v (.pointer (some ⟨w6.heap.size,0,none⟩)) (.slice A ds.length na) (.int .i64 v) (w6.alloc (.cells (ec e') 120)):=by
 have P6:=P.trans (P.1.stay hc)
 have ca:=(Chg.refl [] w6).alloc (.cells (ec e') 120)
 refine ⟨w6.heap.size,A,na,rfl,rfl,rfl,by simp,ca.keep (hc.keep r3 (by simp)) (by simp),hs.chg ca (by simp),fun a ha=>?_,⟨P6.2.1.size,fun hm=>by have:=P6.1.old _ hm;omega⟩,n3,P6.trans (P6.1.stay ca)⟩
 have h1:=hA a ha
 exact ⟨Nat.le_trans P.2.1.size h1,fun hm=>by have:=P.1.old _ hm;omega⟩
end
theorem zup_go (i k:Nat) (p:Po) (x:Pt) (m:Ms) (rest:List Ms) (e e':En) (l:List Int) (hl:l.length=8) (ds:List Sd) (v:Int) (w:World) (h:Msd W w c z L en es xs) (hT:Tab W) (hy:L[i]? =some (p,x)) (hx:x.up=m::rest) (hlu:x.up.length≤1000) (hk:m.li=(k:Int)) (he:en[k]? =some e) (hX:ln (over xs es) k=l)
 (hr:askE (hereE e l hl) i m=((e',ds),v)) (hto:∀d∈ds,0≤d.to∧d.to<c.co∧mg d.m=true) (M:Nat) (hM:∀x∈ports L,x.dn.length≤M) (hMn:M+ds.length≤1000):
 Calls Tryz.prog 89 #[.pointer (some ⟨z.sy,0,none⟩),.int .i64 i] w fun r w'=>(v≠0∧r=.returned (.int .i64 v)∧∃be',MTo W w c z L {z with be:=be'} L en es xs w')∨
  (v=0∧r=.returned (.int .i64 0)∧∃be' ks' L',MTo W w c z L {z with be:=be',ks:=ks'} L' (en.set k e') es xs w'∧ports L'=Y9 ((ports L).set i {x with up:=rest}) ds):=by
 have hi:i<c.co:=by rw [←h.cores];exact (Vg hy).1
 have HG:=Vh (h.head_up hy hlu)
 rw [hx,Qcp,show Qc9 (m::rest)=true from rfl] at HG
 have HR:=Vh (fun w1 (c1:Chg [] w w1)=>zhere_ok k e w1 (h.keep c1) he l hl hX)
 have HK:=Vh (fun w1 (t1:Tab w1)=>hr▸dask_any (hereE e l hl) i m w1 t1)
 have HH:=Vh h
 have HI:=Vh hi
 have HL:=Vh hlu
 have HX:=Vh hx
 have HY:=Vh hy
 have HT:=Vh hT
 have HO:=Vh hto
 have HE:=Vh he
 have HMM:=Vh hM
 have HMN:=Vh hMn
 have HTT:=Vh (fun w1 (c1:Chg (z.all L) w w1)=>(hT.keep h.chg (by simp)).keep c1 (fun hm=>by have h1:=h.new _ hm;have h2:=hT.old.lt;omega))
 have NX:=Vh (show ∀k,w.heap.size≤k→k∉z.all L from fun k hk hm=>by have:=h.old k hm;omega)
 clear h hy hi hx hlu hT he hX hr hto hM hMn
 go_enter Tryz.func89,Tryz.ntmps89
 try dsimp only [List.append]
 go_wp2_with (first |(go_at_call 102;refine (YY i _ HH.out HI.out).mono ?_;rintro e w' ⟨rfl,rfl⟩))
 refine HG.out.mono ?_
 rintro r w2 ⟨rfl,c2⟩
 go_wp2_with fail
 have C3:=Vh (c2.alloc (.cells (msc m) 196))
 have r3:(w2.alloc (.cells (msc m) 196)).heap[w2.heap.size]? =some (.cells (msc m) 196 (0,0)):=by simp
 have N3:=Vh (NX.out w2.heap.size c2.size)
 have B3:=Vh c2.size
 generalize w2.heap.size=b3 at r3 N3 B3 ⊢
 generalize w2.alloc (.cells (msc m) 196)=w3 at r3 C3 ⊢
 have o3:=old r3
 clear c2
 go_upto_region 7 with fail
 have HS3:=Vh (show W.heap.size≤w.heap.size from HH.out.chg.size)
 have N8:=Vh (NX.out w3.heap.size C3.out.size)
 go_cut [8,9,10] (fun p s y wx=>∃be',NewZ W w c z {z with be:=be'} L en es xs b3 m e' ds v p s y wx)
 case first=>
  go_region_held3 (fun w'=>w'.heap[b3]? =some (.cells (msc m) 196 (0,0)))
   (first |exact r6|exact ((Chg.refl [] _).alloc _).keep r6 Vn|(rw [Qc _ _ _ _ _ (by rw [r9,Qd,Zh,Zh];decide),if_neg n98];exact r6)|exact r5|exact ((Chg.refl [] _).alloc _).keep r5 Vn|exact r3|exact ((Chg.refl [] w3).drew.alloc _).keep r3 Vn)
   (first
    |(go_at_call 123;(try rw [hk]);(first
     |(refine (HR.out _ (C3.out.trans (Chg.refl [] w3).drew)).mono ?_;rintro r w' ⟨rfl,be',M4⟩;have r5:=M4.2.1.keep r3 N3.out;have P5:=(HH.out.stay (C3.out.trans (Chg.refl [] w3).drew)).trans M4;have o5:=old r5)
     |(refine (HR.out _ (C3.out.trans ((Chg.refl [] w3).drew.alloc (.cells (ec enZ) 120)))).mono ?_;rintro r w' ⟨rfl,be',M4⟩;have r5:=M4.2.1.keep (((Chg.refl [] w3).drew.alloc (.cells (ec enZ) 120)).keep r3 Vn) N3.out;have P5:=(HH.out.stay (C3.out.trans ((Chg.refl [] w3).drew.alloc (.cells (ec enZ) 120)))).trans M4;have o5:=old r5;have r8:w'.heap[w3.heap.size]? =some (.cells (ec enZ) 120 (0,0)):=M4.2.1.keep (Qbm w3.drew (.cells (ec enZ) 120)) N8.out;have n8:=Qe0 o3)))
    |(go_at_call 122;(first
     |(refine (HK.out _ (HTT.out _ P5.2.1)).mono ?_;rintro r w' ⟨A,na,rfl,hs5,hA5,hc5⟩;have r6:=hc5.keep r5 Vn;have o6:=old r6;(try have r9:=hc5.keep r8 Vn);(try have n98:=n8))
     |(refine (HK.out _ (HTT.out _ (P5.2.1.alloc _))).mono ?_;rintro r w' ⟨A,na,rfl,hs5,hA5,hc5⟩;have r6:=hc5.keep (((Chg.refl [] _).alloc _).keep r5 Vn) Vn;have o6:=old r6;have r9:=hc5.keep (Qbm _ (.cells (ec enZ) 120)) Vn;have n98:=Qe0 o5))))
  all_goals
   go_wp2_with fail
   go_meet
   case rel=>
    have n3:b3∉({z with be:=be'}:Lay).all L:=fun hm=>by
     rcases M4.2.2 _ hm with h|h
     ·exact N3.out h
     ·have:=o3.lt;simp at h;omega
    first
     |exact ⟨be',NewZ.putC HS3.out n3 P5 hc5 r5 hs5 hA5⟩
     |exact ⟨be',NewZ.putB HS3.out n3 P5 hc5 r5 hs5 hA5⟩
     |exact ⟨be',NewZ.putA HS3.out n3 P5 hc5 r8 r5 C3.out.size (fun hm=>by rcases M4.2.2 _ hm with h|h;exact N8.out h;simp at h;omega) (by have:=o3.lt;omega) hs5 hA5⟩
 case rest=>
  obtain ⟨be',hz⟩:=hcut
  rename World=>w9
  obtain ⟨b8,A,na,rfl,rfl,rfl,r8,r9,hs,hA,⟨h8,n8⟩,n3,P⟩:=hz
  have PP:=Vh P
  have o8:=old r8
  have o9:=old r9
  by_cases hv:v=0
  ·have HSL:=Vh hs
   have HAL:=Vh hA
   have NB3:=Vh n3
   have NB8:=Vh n8
   clear hs hA n3 n8 P h8
   obtain rfl:=hv
   go_wp2_with fail
   refine (PP.out.1.pop_up HY.out HL.out).mono ?_
   rintro r w10 ⟨rfl,p',_,M10⟩
   replace r8:=M10.2.1.keep r8 NB8.out
   replace r9:=M10.2.1.keep r9 NB3.out
   have HM10:=Vh M10
   clear M10 o8 o9
   have o8:=old r8
   have o9:=old r9
   have hbec:=Qdv k e e' A ds.length na ds w10 HM10.out.1 HT.out HE.out rfl (HSL.out.chg HM10.out.2.1 (fun a ha=>(HAL.out a ha).2)) (by
    intro h0 a ha hm
    rcases HM10.out.2.2 _ hm with h1|h1
    ·exact (HAL.out a ha).2 h1
    ·obtain ⟨b,o,rfl⟩:=HSL.out.addr h0
     obtain ⟨cs,ts,fs,hb2,_,_⟩:=sd_whole HSL.out (Chg.refl [] w9) (by simp) h0 (List.getElem?_eq_getElem h0)
     cases ha
     have:=Xe hb2
     simp at h1
     omega) HO.out M (by
    intro y hy
    rw [X8] at hy
    rcases List.mem_or_eq_of_mem_set hy with h1|rfl
    ·exact HMM.out y h1
    ·exact HMM.out x (List.mem_of_getElem? (Qhh HY.out))) HMN.out
   have HBE:=Vh hbec
   clear hbec
   go_wp2_with fail
   refine HBE.out.mono ?_
   rintro r w11 ⟨rfl,L',M11,hp⟩
   have HM11:=Vh M11
   have HPP:=Vh hp
   clear M11 hp r8 r9 o8 o9
   go_wp2_with fail
   refine (HM11.out.1.count 10 (by decide) (by decide)).mono ?_
   rintro r w12 ⟨⟨v,rfl⟩,ks',M12⟩
   have HM12:=Vh M12
   clear M12
   go_wp2_with fail
   go_ret
   have hpp:ports L'=Y9 ((ports L).set i {x with up:=rest}) ds:=by rw [HPP.out,X8,HX.out];rfl
   first
    |exact .inr ⟨rfl,rfl,be',ks',L',((PP.out.trans HM10.out).trans HM11.out).trans HM12.out,hpp⟩
    |exact ⟨rfl,be',ks',L',((PP.out.trans HM10.out).trans HM11.out).trans HM12.out,hpp⟩
  ·have tv:(v !=0)=true:=by simpa using hv
   clear r8 r9 hs hA n3 n8 P h8 o8 o9
   go_wp2_with fail
   go_ret
   first
    |exact .inl ⟨hv,rfl,be',PP.out⟩
    |exact ⟨rfl,be',PP.out⟩
end
end
section
section
variable {W:World} {c:Cg} {z:Lay} {L:List (Po×Pt)} {en:List En} {es:List Ent} {xs:List Int}
theorem zanswer_none (i:Nat) (p:Po) (x:Pt) (w:World) (h:Msd W w c z L en es xs) (hy:L[i]? =some (p,x)) (hx:x.an=[]):Calls Tryz.prog 90 #[.pointer (some ⟨z.sy,0,none⟩),.int .i64 i] w fun r w'=>r=.returned (.int .i64 14)∧∃p',MTo W w c z L z (L.set i (p',{x with an:=[]})) en es xs w':=by
 have hi:i<c.co:=by rw [←h.cores];exact (Vg hy).1
 have HG:=Vh (h.pop_an hy (by rw [hx];simp))
 rw [hx,Qfd,show Qc9 ([]:List Ms)=false from rfl] at HG
 have HH:=Vh h
 have HI:=Vh hi
 clear h hy hi hx
 go_enter Tryz.func90,Tryz.ntmps90
 try dsimp only [List.append]
 go_wp2_with (first |(go_at_call 102;refine (YY i _ HH.out HI.out).mono ?_;rintro e w' ⟨rfl,rfl⟩))
 refine HG.out.mono ?_
 rintro r w2 ⟨rfl,p',_,M2⟩
 have HM2:=Vh M2
 clear M2
 go_wp2_with fail
 go_ret
 exact ⟨rfl,p',HM2.out.trans (HM2.out.1.stay ((Chg.refl [] w2).alloc _))⟩
theorem zanswer_go (i k:Nat) (p:Po) (x:Pt) (m:Ms) (rest:List Ms) (e e':En) (ds:List Sd) (v:Int) (w:World) (h:Msd W w c z L en es xs) (hT:Tab W) (hy:L[i]? =some (p,x)) (hx:x.an=m::rest) (hlu:x.an.length≤1000) (hk:m.li=(k:Int)) (he:en[k]? =some e)
 (hr:ansE e i m=((e',ds),v)) (hto:∀d∈ds,0≤d.to∧d.to<c.co∧mg d.m=true) (M:Nat) (hM:∀x∈ports L,x.dn.length≤M) (hMn:M+ds.length≤1000):
 Calls Tryz.prog 90 #[.pointer (some ⟨z.sy,0,none⟩),.int .i64 i] w fun r w'=>(v≠0∧r=.returned (.int .i64 v)∧∃p',MTo W w c z L z (L.set i (p',{x with an:=rest})) en es xs w')∨
  (v=0∧r=.returned (.int .i64 0)∧∃ks' L',MTo W w c z L {z with ks:=ks'} L' (en.set k e') es xs w'∧ports L'=Y9 ((ports L).set i {x with an:=rest}) ds):=by
 have hi:i<c.co:=by rw [←h.cores];exact (Vg hy).1
 have hli:k<c.li:=by rw [←h.lines];exact (Vg he).1
 have HG:=Vh (h.pop_an hy hlu)
 have hxt:x.an.tail=rest:=by rw [hx];rfl
 have hpx:(ports L)[i]? =some x:=Qhh hy
 rw [hxt,hx,Qcp,show Qc9 (m::rest)=true from rfl] at HG
 have HK:=Vh (fun w1 (t1:Tab w1)=>hr▸danswer_any e i m w1 t1)
 have HH:=Vh h
 have HI:=Vh hi
 have HT:=Vh hT
 have HO:=Vh hto
 have HE:=Vh he
 have HMM:=Vh hM
 have HMN:=Vh hMn
 have HPX:=Vh hpx
 have HTT:=Vh (fun w1 (c1:Chg (z.all L) w w1)=>(hT.keep h.chg (by simp)).keep c1 (fun hm=>by have h1:=h.new _ hm;have h2:=hT.old.lt;omega))
 have p0:=fun t f=>erow he t f
 have p1:=fun t f=>Qek he t f
 have g0:(0:Int)≤(k:Int):=by omega
 have g1:(k:Int)<(c.li:Int):=by omega
 clear h hy hi hx hlu hT he hr hto hM hMn hxt hpx hli
 go_enter Tryz.func90,Tryz.ntmps90
 try dsimp only [List.append]
 go_wp2_with (first |(go_at_call 102;refine (YY i _ HH.out HI.out).mono ?_;rintro e w' ⟨rfl,rfl⟩))
 refine HG.out.mono ?_
 rintro r w2 ⟨rfl,p',_,M2⟩
 have HM2:=Vh M2
 have rS:=M2.1.sys
 have rE:=M2.1.ents
 clear M2
 generalize hL1:L.set i (p',{x with an:=rest})=L1 at HM2
 have HL1:=Vh hL1
 clear hL1
 have HW2:=Vh (show ∀k,w2.heap.size≤k→k∉z.all L1 from fun k hk hm=>by have:=HM2.out.1.old k hm;omega)
 go_wp2_with fail
 have C3:=Vh ((Chg.refl [] w2).alloc (.cells (msc m) 196))
 have r3:(w2.alloc (.cells (msc m) 196)).heap[w2.heap.size]? =some (.cells (msc m) 196 (0,0)):=by simp
 have N3:=Vh (HW2.out w2.heap.size (Nat.le_refl _))
 replace rS:=C3.out.keep rS Vn
 replace rE:=C3.out.keep rE Vn
 have hsy:z.sy<w2.heap.size:=Xe HM2.out.1.sys
 have hse:z.en<w2.heap.size:=Xe HM2.out.1.ents
 generalize w2.heap.size=b3 at r3 N3 hsy hse ⊢
 have ne1:z.sy≠b3:=by omega
 have ne2:z.en≠b3:=by omega
 clear hsy hse
 generalize w2.alloc (.cells (msc m) 196)=w3 at r3 C3 rS rE ⊢
 have o3:=old r3
 have oS:=old rS
 have oE:=old rE
 go_upto_region 7 with fail
 have HS3:=Vh (show W.heap.size≤w2.heap.size from HM2.out.1.chg.size)
 have N8:=Vh (HW2.out w3.heap.size C3.out.size)
 go_cut [8,9,10] (fun p s y wx=>NewZ W w2 c z z L1 en es xs b3 m e' ds v p s y wx)
 case first=>
  go_region_held3 (fun w'=>w'.heap[b3]? =some (.cells (msc m) 196 (0,0))∧w'.heap[z.sy]? =some (.cells (z.enc c).toArray 116 (0,0))∧w'.heap[z.en]? =some (.cells (sq En.enc en []) 120 (0,0)))
   (first |exact ⟨r6,s6,e6⟩|exact ⟨((Chg.refl [] _).alloc _).keep r6 Vn,((Chg.refl [] _).alloc _).keep s6 Vn,((Chg.refl [] _).alloc _).keep e6 Vn⟩|(refine ⟨?_,?_,?_⟩;(rw [Qc _ _ _ _ _ (by rw [r9,Qd,Zh,Zh];decide),if_neg n98];exact r6);(rw [Qc _ _ _ _ _ (by rw [r9,Qd,Zh,Zh];decide),if_neg (Qe0 oS)];exact s6);(rw [Qc _ _ _ _ _ (by rw [r9,Qd,Zh,Zh];decide),if_neg (Qe0 oE)];exact e6))|exact ⟨r3,rS,rE⟩|exact ⟨((Chg.refl [] w3).drew.alloc _).keep r3 Vn,((Chg.refl [] w3).drew.alloc _).keep rS Vn,((Chg.refl [] w3).drew.alloc _).keep rE Vn⟩)
   (first
    |(go_at_call 127;(first
     |(refine (HK.out _ (HTT.out _ (HM2.out.2.1.trans (C3.out.trans (Chg.refl [] w3).drew |>.mono (by simp))))).mono ?_;rintro r w' ⟨A,na,rfl,hs5,hA5,hc5⟩;have r6:=hc5.keep r3 Vn;have s6:=hc5.keep rS Vn;have e6:=hc5.keep rE Vn;have o6:=old r6)
     |(refine (HK.out _ (HTT.out _ (HM2.out.2.1.trans (C3.out.trans ((Chg.refl [] w3).drew.alloc (.cells (ec enZ) 120)) |>.mono (by simp))))).mono ?_;rintro r w' ⟨A,na,rfl,hs5,hA5,hc5⟩;have r6:=hc5.keep (((Chg.refl [] w3).drew.alloc (.cells (ec enZ) 120)).keep r3 Vn) Vn;have s6:=hc5.keep (((Chg.refl [] w3).drew.alloc (.cells (ec enZ) 120)).keep rS Vn) Vn;have e6:=hc5.keep (((Chg.refl [] w3).drew.alloc (.cells (ec enZ) 120)).keep rE Vn) Vn;have o6:=old r6;have r9:w'.heap[w3.heap.size]? =some (.cells (ec enZ) 120 (0,0)):=hc5.keep (Qbm w3.drew (.cells (ec enZ) 120)) Vn;have n98:=Qe0 o3))))
  all_goals
   go_wp2_with fail
   go_meet
   case rel=>
    first
     |exact NewZ.putC HS3.out N3.out (HM2.out.1.stay (C3.out.trans (Chg.refl [] w3).drew)) hc5 r3 hs5 hA5
     |exact NewZ.putA HS3.out N3.out (HM2.out.1.stay (C3.out.trans ((Chg.refl [] w3).drew.alloc (.cells (ec enZ) 120)))) hc5 (Qbm w3.drew (.cells (ec enZ) 120)) (((Chg.refl [] w3).drew.alloc (.cells (ec enZ) 120)).keep r3 Vn) C3.out.size N8.out (by have:=o3.lt;omega) hs5 hA5
 case rest=>
  have hz:=hcut
  clear hcut rS rE oS oE
  rename World=>w9
  obtain ⟨b8,A,na,rfl,rfl,rfl,r8,r9,hs,hA,⟨h8,n8⟩,n3,P⟩:=hz
  have PP:=Vh P
  have o8:=old r8
  have o9:=old r9
  by_cases hv:v=0
  ·have HSL:=Vh hs
   have HAL:=Vh hA
   have hbec:=Qdv k e e' A ds.length na ds w9 PP.out.1 HT.out HE.out rfl HSL.out (fun h0 a ha=>(HAL.out a ha).2) HO.out M (by
    intro y hy
    rw [←HL1.out,X8] at hy
    rcases List.mem_or_eq_of_mem_set hy with h1|rfl
    ·exact HMM.out y h1
    ·exact HMM.out x (List.mem_of_getElem? HPX.out)) HMN.out
   have HBE:=Vh hbec
   clear hs hA n3 n8 P h8 hbec
   obtain rfl:=hv
   go_wp2_with fail
   refine HBE.out.mono ?_
   rintro r w11 ⟨rfl,L',M11,hp⟩
   have HM11:=Vh M11
   have HPP:=Vh hp
   clear M11 hp r8 r9 o8 o9
   go_wp2_with fail
   refine (HM11.out.1.count 11 (by decide) (by decide)).mono ?_
   rintro r w12 ⟨⟨v,rfl⟩,ks',M12⟩
   have HM12:=Vh M12
   clear M12
   go_wp2_with fail
   go_ret
   have hpp:ports L'=Y9 ((ports L).set i {x with an:=rest}) ds:=by rw [HPP.out,←HL1.out,X8]
   first
    |exact .inr ⟨rfl,rfl,ks',L',((HM2.out.trans PP.out).trans HM11.out).trans HM12.out,hpp⟩
    |exact ⟨rfl,ks',L',((HM2.out.trans PP.out).trans HM11.out).trans HM12.out,hpp⟩
  ·have tv:(v !=0)=true:=by simpa using hv
   clear r8 r9 hs hA n3 n8 P h8 o8 o9
   go_wp2_with fail
   go_ret
   have hfin:∃p',MTo W w c z L z (L.set i (p',{x with an:=rest})) en es xs w9:=⟨p',by rw [HL1.out];exact HM2.out.trans PP.out⟩
   first
    |exact .inl ⟨hv,rfl,hfin⟩
    |exact ⟨rfl,hfin⟩
end
end
section
section
variable {W:World} {c:Cg} {z:Lay} {L:List (Po×Pt)} {en:List En} {es:List Ent} {xs:List Int}
theorem zhear_no (k:Int) (w:World) (h:Msd W w c z L en es xs) (hk:inB k c.co=false):Calls Tryz.prog 91 #[.pointer (some ⟨z.sy,0,none⟩),.int .i64 k] w fun r w'=>r=.returned (.tuple #[.agg (msc msZ),.int .i64 1])∧Chg [] w w':=by
 have HH:=Vh h
 have HK:=Vh hk
 clear h hk
 go_enter Tryz.func91,Tryz.ntmps91
 try dsimp only [List.append]
 go_wp2_with (first |(go_at_call 102;refine (Qdf k _ (HH.out.keep ((Chg.refl [] w).alloc _)) HK.out).mono ?_;rintro e w' ⟨rfl,rfl⟩))
 refine bodyPost_ret (v:=.tuple #[.agg (msc msZ),.int .i64 1]) ?_ (by rfl) ?_
 ·exact Ya (by rfl) _ _ w.heap.size msZ (0,0) (by rfl) (by simp [*]) _ (by rfl)
 ·exact ⟨rfl,by (repeat' (first |with_reducible exact Chg.refl _ _|with_reducible assumption|with_reducible refine Chg.drew ?_|with_reducible refine Chg.drewN ?_ _|with_reducible refine Chg.alloc ?_ _|with_reducible refine Chg.putRow ?_ _ _ _ (.inr ?_)|with_reducible refine Chg.setCell ?_ _ _ _ (.inr ?_)|(show _≤_;first |exact Nat.le_refl _|omega|(simp;done))))⟩
theorem zhear_none (i:Nat) (p:Po) (x:Pt) (w:World) (h:Msd W w c z L en es xs) (hy:L[i]? =some (p,x)) (hx:x.dn=[]):Calls Tryz.prog 91 #[.pointer (some ⟨z.sy,0,none⟩),.int .i64 i] w fun r w'=>r=.returned (.tuple #[.agg (msc msZ),.int .i64 14])∧∃p',MTo W w c z L z (L.set i (p',{x with dn:=[]})) en es xs w':=by
 have hi:i<c.co:=by rw [←h.cores];exact (Vg hy).1
 have hw:w.heap.size∉z.all L:=fun hm=>by have:=h.old _ hm;omega
 have HG:=Vh (fun w1 (c1:Chg [] w w1)=>(h.keep c1).pop_dn hy (by rw [hx];simp))
 rw [hx,Qfd,show Qc9 ([]:List Ms)=false from rfl] at HG
 have HH:=Vh h
 have HI:=Vh hi
 have HW:=Vh hw
 clear h hy hi hx hw
 go_enter Tryz.func91,Tryz.ntmps91
 try dsimp only [List.append]
 go_wp2_with (first |(go_at_call 102;refine (YY i _ (HH.out.keep ((Chg.refl [] w).alloc _)) HI.out).mono ?_;rintro e w' ⟨rfl,rfl⟩))
 refine (HG.out _ ((Chg.refl [] w).alloc _)).mono ?_
 rintro r w2 ⟨rfl,p',_,M2⟩
 have r0:w2.heap[w.heap.size]? =some (.cells (msc msZ) 196 (0,0)):=M2.2.1.keep (by simp) HW.out
 have o0:=old r0
 have HM2:=Vh ((HH.out.stay ((Chg.refl [] w).alloc (.cells (msc msZ) 196))).trans M2)
 have HSZ:=Vh (show w.heap.size<(w.alloc (.cells (msc msZ) 196)).heap.size by simp)
 have HN:=Vh M2.2.2
 clear M2
 go_wp2_with fail
 refine bodyPost_ret (v:=.tuple #[.agg (msc msZ),.int .i64 14]) ?_ (by rfl) ?_
 ·exact Ya (by rfl) _ _ w.heap.size msZ (0,0) (by rfl) (by simp [*]) _ (by rfl)
 ·refine ⟨rfl,p',(HM2.out.trans (HM2.out.1.stay ((Chg.refl [] w2).alloc _))).loc (((Chg.refl [w.heap.size] _).putRow w.heap.size 0 _ (.inl (by simp)))) ?_⟩
  intro k hk
  rw [List.mem_singleton] at hk
  subst hk
  refine ⟨HH.out.chg.size,Nat.le_refl _,fun hm=>?_⟩
  rcases HN.out _ hm with h1|h1
  ·exact HW.out h1
  ·have:=HSZ.out;omega
theorem Msd.answers {w w2:World} (h:Msd W w c z L en es xs) (hT:Tab W) {i:Nat} {p:Po} {x:Pt} (hy:L[i]? =some (p,x)) {s:Sta} {A:Option Addr} {nc:Nat} {ms:List Ms} (hq:x.an.length<1000) (h1:ms.length≤1) (hm:∀m∈ms,mg m=true) (h2:Told w w2 A ms) (h3:Agt W w2 p.g p.a p.b c.se c.wa s) (h4:Chg [p.a,p.b] w w2):
 Calls Tryz.prog 129 #[.pointer (some ⟨z.po,i*7+3,none⟩),.slice A ms.length nc] w2 fun e w'=>e=.returned (.tuple #[])∧∃p',p'.g=p.g∧MTo W w c z L z (L.set i (p',{x with s:=s,an:=x.an++ms})) en es xs w':=by
 have M2:=h.agent hy h3 h4
 have hold:=h.old
 refine (M2.1.send_an hT (set_at hy) A _ nc ms rfl h2.1 ?_ (by show x.an.length+ms.length≤1000;omega) hm).mono ?_
 ·intro a ha hk
  rw [all_set (y':=(p,{x with s:=s})) hy rfl] at hk
  have:=hold _ hk
  have:=h2.2 a ha
  omega
 ·rintro e w' ⟨he,p',hg,M3⟩
  refine ⟨he,p',hg,M2.trans ?_⟩
  rw [List.set_set] at M3
  exact M3
theorem zhear_go (i:Nat) (p:Po) (x:Pt) (m:Ms) (rest:List Ms) (s':Sta) (av:List Ms) (v:Int) (w:World) (h:Msd W w c z L en es xs) (hT:Tabs W) (hy:L[i]? =some (p,x)) (hx:x.dn=m::rest) (hlu:x.dn.length≤1000) (hu:x.s.2≤1000000000)
 (hr:hearF c.se c.wa x.s m=(s',(av,v))) (ha1:av.length≤1) (hla:x.an.length<1000) (hma:∀a∈av,mg a=true):
 Calls Tryz.prog 91 #[.pointer (some ⟨z.sy,0,none⟩),.int .i64 i] w fun r w'=>(v≠0∧r=.returned (.tuple #[.agg (msc msZ),.int .i64 v])∧∃p',MTo W w c z L z (L.set i (p',{x with s:=s',dn:=rest})) en es xs w')∨
  (v=0∧r=.returned (.tuple #[.agg (msc m),.int .i64 0])∧∃ks' p',MTo W w c z L {z with ks:=ks'} (L.set i (p',{x with s:=s',an:=x.an++av,dn:=rest})) en es xs w'):=by
 have hi:i<c.co:=by rw [←h.cores];exact (Vg hy).1
 have hw:w.heap.size∉z.all L:=fun hm=>by have:=h.old _ hm;omega
 have HG:=Vh (fun w1 (c1:Chg [] w w1)=>(h.keep c1).pop_dn hy hlu)
 have hxt:x.dn.tail=rest:=by rw [hx];rfl
 rw [hxt,hx,Qcp,show Qc9 (m::rest)=true from rfl] at HG
 have hh:∀(w1:World) (p1:Po),Agt W w1 p1.g p1.a p1.b c.se c.wa x.s→Calls Tryz.prog 128 #[.pointer (some ⟨p1.g,0,none⟩),.agg (msc m)] w1 (AgRet W w1 p1.g p1.a p1.b c.se c.wa s' (fun a=>.tuple #[a,.int .i64 v]) av):=by
  intro w1 p1 h1
  have:=ghear_any m w1 h1 hu hT
  rw [hr] at this
  exact this
 have HA:=Vh hh
 have HH:=Vh h
 have HI:=Vh hi
 have HW:=Vh hw
 have HT:=Vh hT
 have HY:=Vh hy
 have H1:=Vh ha1
 have HLA:=Vh hla
 have HMA:=Vh hma
 clear h hy hi hx hw hT hlu hu hr ha1 hla hma hh hxt
 go_enter Tryz.func91,Tryz.ntmps91
 try dsimp only [List.append]
 go_wp2_with (first |(go_at_call 102;refine (YY i _ (HH.out.keep ((Chg.refl [] w).alloc _)) HI.out).mono ?_;rintro e w' ⟨rfl,rfl⟩))
 refine (HG.out _ ((Chg.refl [] w).alloc _)).mono ?_
 rintro r w2 ⟨rfl,p',hg0,M2⟩
 clear hg0
 have r0:w2.heap[w.heap.size]? =some (.cells (msc msZ) 196 (0,0)):=M2.2.1.keep (by simp) HW.out
 have HM2:=Vh ((HH.out.stay ((Chg.refl [] w).alloc (.cells (msc msZ) 196))).trans M2)
 have HY2:=Vh (set_at (y':=(p',{x with dn:=rest})) HY.out)
 have NB:=Vh (show w.heap.size∉z.all (L.set i (p',{x with dn:=rest})) from fun hm=>by
  rcases M2.2.2 _ hm with h1|h1
  ·exact HW.out h1
  ·simp at h1;omega)
 clear M2
 generalize hL1:L.set i (p',{x with dn:=rest})=L1 at HM2 HY2 NB
 have HL1:=Vh hL1
 clear hL1
 have o0:=old r0
 go_wp2_with fail
 have C3:=Vh ((Chg.refl [] w2).alloc (.cells (msc m) 196))
 have r3:(w2.alloc (.cells (msc m) 196)).heap[w2.heap.size]? =some (.cells (msc m) 196 (0,0)):=by simp
 have N3:=Vh (show w2.heap.size∉z.all L1 from fun hm=>by have:=HM2.out.1.old _ hm;omega)
 replace r0:=C3.out.keep r0 Vn
 have ne0:w.heap.size≠w2.heap.size:=by have:=o0.lt;omega
 have H03:=Vh (show w.heap.size≤w2.heap.size from Nat.le_of_lt o0.lt)
 generalize w2.heap.size=b3 at r3 N3 ne0 H03 ⊢
 generalize hb0:w.heap.size=b0 at r0 NB ne0 H03 ⊢
 have HB0:=Vh hb0
 clear hb0 o0
 generalize w2.alloc (.cells (msc m) 196)=w3 at r0 r3 C3 ⊢
 have HM3:=Vh (HM2.out.1.keep C3.out)
 have rP:=HM3.out.ports
 have s0:Qcx (w3.heap[z.po]?) (i*7)=some (.pointer (some ⟨p'.g,0,none⟩)):=by rw [rP,Qb];exact pcell0 HY2.out
 have hpa:∀k∈[p'.a,p'.b],k∈z.all L1:=fun k hk=>HM3.out.inf HY2.out (.inr (by
  unfold Po.foot
  simp only [List.mem_cons,Vn,or_false] at hk
  rcases hk with h5|h5<;>simp [h5]))
 have NP:=Vh (show z.po∉[p'.a,p'.b] from fun hp=>by
  have:z.po∈p'.foot z.po:=by
   unfold Po.foot
   simp only [List.mem_cons,Vn,or_false] at hp
   rcases hp with h5|h5<;>simp [←h5]
  exact (HM3.out.own HY2.out _ this).1 (Lay.beB (by simp)))
 have N3P:=Vh (show b3∉[p'.a,p'.b] from fun hm=>N3.out (hpa _ hm))
 have N0P:=Vh (show b0∉[p'.a,p'.b] from fun hm=>NB.out (hpa _ hm))
 have o3:=old r3
 have HR:=Vh rP
 have HC0:=Vh (show (sq penc L1 [])[i*7]? =some (.pointer (some ⟨p'.g,0,none⟩)) from pcell0 HY2.out)
 have HAG:=Vh (show Agt W w3.drew p'.g p'.a p'.b c.se c.wa x.s from ((HM3.out.keep (Chg.refl [] w3).drew).ok _ (List.mem_of_getElem? HY2.out)).1)
 have HAH:=Vh (HA.out _ p' HAG.out)
 have HR3:=Vh r3
 have HR0:=Vh r0
 clear rP hpa HA HAG HG
 go_upto_region 7 with fail
 go_region_held3 (fun w'=>Qcx (w'.heap[z.po]?) (i*7)=some (.pointer (some ⟨p'.g,0,none⟩))∧w'.heap[b3]? =some (.cells (msc m) 196 (0,0)))
  (first |(refine ⟨?_,h4.keep r3 N3P.out⟩;rw [h4.keep HR.out NP.out,Qb];exact HC0.out)|exact ⟨s0,r3⟩)
  (first
   |(go_at_call 128;refine HAH.out.mono ?_;rintro e w' ⟨A,n,rfl,h2,h3,h4⟩))
 all_goals
  rename World=>w4
  rename _∧_=>hHeld
  have HS2:=Vh h2
  have HS3:=Vh h3
  have HS4:=Vh h4
  replace r3:=h4.keep r3 N3P.out
  replace r0:=h4.keep r0 N0P.out
  clear h2 h3 h4 s0 o3
  have o3:=old r3
  have o0:=old r0
  have HMA3:=Vh ((HM3.out.keep (Chg.refl [] w3).drew).agent HY2.out HS3.out HS4.out)
  have HLOC:=Vh (show W.heap.size≤b0∧w.heap.size≤b0 from ⟨by rw [←HB0.out];exact HH.out.chg.size,by rw [←HB0.out];exact Nat.le_refl _⟩)
  by_cases hv:v=0
  ·have HSE:=Vh ((HM3.out.keep (Chg.refl [] w3).drew).answers (nc:=n) HT.out.1 HY2.out HLA.out H1.out HMA.out HS2.out HS3.out HS4.out)
   clear hHeld
   obtain rfl:=hv
   go_wp2_with fail
   refine HSE.out.mono ?_
   rintro r w5 ⟨rfl,p2,hg2,M5⟩
   clear hg2
   have HM5:=Vh ((((HM2.out.trans (HM2.out.1.stay C3.out))).trans (HM3.out.stay (Chg.refl [] w3).drew)).trans M5)
   clear r3 r0 o3 o0
   have r3:=M5.2.1.keep HR3.out N3.out
   have r0:=M5.2.1.keep HR0.out NB.out
   have l3:=Xe HR3.out
   have l0:=Xe HR0.out
   have HN3:=Vh (fun hm=>by rcases M5.2.2 b3 hm with h1|h1;exact N3.out h1;simp at h1;omega:b3∉z.all _)
   have HN0:=Vh (fun hm=>by rcases M5.2.2 b0 hm with h1|h1;exact NB.out h1;simp at h1;omega:b0∉z.all _)
   have hs5:L1.set i (p2,{x with s:=s',an:=x.an++av,dn:=rest})=L.set i (p2,{x with s:=s',an:=x.an++av,dn:=rest}):=by rw [←HL1.out,List.set_set]
   have hm5:=HM5.out
   have hn3:=HN3.out
   have hn0:=HN0.out
   try dsimp only at hm5 hn3 hn0
   rw [hs5] at hm5 hn3 hn0
   have HM6:=Vh hm5
   have HN6:=Vh hn3
   have HN7:=Vh hn0
   clear M5 l3 l0 hs5 hm5 hn3 hn0
   have o3:=old r3
   have o0:=old r0
   go_wp2_with fail
   refine (HM6.out.1.count 12 (by decide) (by decide)).mono ?_
   rintro r w6 ⟨⟨v,rfl⟩,ks',M6⟩
   replace r3:=M6.2.1.keep r3 HN6.out
   replace r0:=M6.2.1.keep r0 HN7.out
   have HM7:=Vh (HM6.out.trans M6)
   clear M6 o3 o0
   have o3:=old r3
   have o0:=old r0
   go_wp2_with fail
   refine bodyPost_ret (v:=.tuple #[.agg (msc m),.int .i64 0]) ?_ (by rfl) ?_
   ·exact Ya (by rfl) _ _ b0 m (0,0) (by rfl) (by simp [*]) _ (by rfl)
   ·have hfin:∃ks' p',MTo W w c z L {z with ks:=ks'} (L.set i (p',{x with s:=s',an:=x.an++av,dn:=rest})) en es xs (putRow w6 b0 0 (msc m)):=by
     refine ⟨ks',p2,HM7.out.loc ((Chg.refl [b0] w6).putRow b0 0 (msc m) (.inl (by simp))) ?_⟩
     intro k hk
     rw [List.mem_singleton] at hk
     subst hk
     exact ⟨HLOC.out.1,HLOC.out.2,HN7.out⟩
    first
     |exact .inr ⟨rfl,rfl,hfin⟩
     |exact ⟨rfl,hfin⟩
  ·have tv:(v !=0)=true:=by simpa using hv
   clear hHeld
   go_wp2_with fail
   refine bodyPost_ret (v:=.tuple #[.agg (msc msZ),.int .i64 v]) ?_ (by rfl) ?_
   ·exact Ya (by rfl) _ _ b0 msZ (0,0) (by rfl) (by simp [*]) _ (by rfl)
   ·have hfin:∃p',MTo W w c z L z (L.set i (p',{x with s:=s',dn:=rest})) en es xs (putRow w4 b0 0 (msc msZ)):=by
     have hm:=(((HM2.out.trans (HM2.out.1.stay C3.out))).trans (HM3.out.stay (Chg.refl [] w3).drew)).trans HMA3.out
     have hn:b0∉z.all (L1.set i (p',{x with s:=s',dn:=rest})):=by rw [all_set (y':=(p',{x with s:=s',dn:=rest})) HY2.out rfl];exact NB.out
     have e5:L1.set i (p',{x with s:=s',dn:=rest})=L.set i (p',{x with s:=s',dn:=rest}):=by rw [←HL1.out,List.set_set]
     try dsimp only at hm
     rw [e5] at hm hn
     refine ⟨p',hm.loc ((Chg.refl [b0] w4).putRow b0 0 (msc msZ) (.inl (by simp))) ?_⟩
     intro k hk
     rw [List.mem_singleton] at hk
     subst hk
     exact ⟨HLOC.out.1,HLOC.out.2,hn⟩
    first
     |exact .inl ⟨hv,rfl,hfin⟩
     |exact ⟨rfl,hfin⟩
end
end
section
def Qdb (e:En):Bool:=!e.he||decide (0≤e.ow)||e.sh !=0#8||e.bu !=0
section
variable {W:World} {c:Cg} {z:Lay} {L:List (Po×Pt)} {en:List En} {es:List Ent} {xs:List Int}
theorem zdrop_off (k:Int) (w:World) (h:Msd W w c z L en es xs) (hk:inB k c.li=false):Calls Tryz.prog 96 #[.pointer (some ⟨z.sy,0,none⟩),.int .i64 k] w fun r w'=>r=.returned (.int .i64 1)∧w=w':=by
 have HH:=Vh h
 have HK:=Vh hk
 clear h hk
 go_enter Tryz.func96,Tryz.ntmps96
 try dsimp only [List.append]
 go_wp2_with (first |(go_at_call 78;refine (ZT k false HK.out _ HH.out).mono ?_;rintro e w' ⟨rfl,rfl⟩))
 go_ret
 exact ⟨rfl,rfl⟩
theorem zdrop_kept (i:Nat) (e:En) (w:World) (h:Msd W w c z L en es xs) (he:en[i]? =some e) (hd:Qdb e=true):Calls Tryz.prog 96 #[.pointer (some ⟨z.sy,0,none⟩),.int .i64 i] w fun r w'=>r=.returned (.int .i64 16)∧Chg [] w w':=by
 have hi:i<c.li:=by rw [←h.lines];exact (Vg he).1
 have rS:=h.sys
 have rE:=h.ents
 have oS:=old rS
 have oE:=old rE
 have p0:=fun t f=>erow he t f
 have p1:=fun t f=>Qek he t f
 have g0:(0:Int)≤(i:Int):=by omega
 have g1:(i:Int)<(c.li:Int):=by omega
 have HH:=Vh h
 have HB:=Vh (show inB (i:Int) c.li=true by unfold inB;simp;omega)
 have HE:=Vh he
 clear h he hi
 cases h1:e.he
 ·clear hd
  go_enter Tryz.func96,Tryz.ntmps96
  try dsimp only [List.append]
  go_wp2_with (first |(go_at_call 78;refine (ZT (i:Int) true HB.out _ HH.out).mono ?_;rintro e w' ⟨rfl,rfl⟩))
  go_ret
  exact ⟨rfl,by (repeat' (first |with_reducible exact Chg.refl _ _|with_reducible assumption|with_reducible refine Chg.drew ?_|with_reducible refine Chg.drewN ?_ _|with_reducible refine Chg.alloc ?_ _|with_reducible refine Chg.putRow ?_ _ _ _ (.inr ?_)|with_reducible refine Chg.setCell ?_ _ _ _ (.inr ?_)|(show _≤_;first |exact Nat.le_refl _|omega|(simp;done))))⟩
 cases h2:decide (0≤e.ow)
 ·cases h3:(e.sh !=0#8)
  ·have h4:(e.bu !=0)=true:=by unfold Qdb at hd;rw [h1,h2,h3] at hd;simpa using hd
   clear hd
   go_enter Tryz.func96,Tryz.ntmps96
   try dsimp only [List.append]
   go_wp2_with (first |(go_at_call 78;refine (ZT (i:Int) true HB.out _ HH.out).mono ?_;rintro e w' ⟨rfl,rfl⟩))
   go_ret
   exact ⟨rfl,by (repeat' (first |with_reducible exact Chg.refl _ _|with_reducible assumption|with_reducible refine Chg.drew ?_|with_reducible refine Chg.drewN ?_ _|with_reducible refine Chg.alloc ?_ _|with_reducible refine Chg.putRow ?_ _ _ _ (.inr ?_)|with_reducible refine Chg.setCell ?_ _ _ _ (.inr ?_)|(show _≤_;first |exact Nat.le_refl _|omega|(simp;done))))⟩
  ·clear hd
   go_enter Tryz.func96,Tryz.ntmps96
   try dsimp only [List.append]
   go_wp2_with (first |(go_at_call 78;refine (ZT (i:Int) true HB.out _ HH.out).mono ?_;rintro e w' ⟨rfl,rfl⟩))
   go_ret
   exact ⟨rfl,by (repeat' (first |with_reducible exact Chg.refl _ _|with_reducible assumption|with_reducible refine Chg.drew ?_|with_reducible refine Chg.drewN ?_ _|with_reducible refine Chg.alloc ?_ _|with_reducible refine Chg.putRow ?_ _ _ _ (.inr ?_)|with_reducible refine Chg.setCell ?_ _ _ _ (.inr ?_)|(show _≤_;first |exact Nat.le_refl _|omega|(simp;done))))⟩
 ·clear hd
  go_enter Tryz.func96,Tryz.ntmps96
  try dsimp only [List.append]
  go_wp2_with (first |(go_at_call 78;refine (ZT (i:Int) true HB.out _ HH.out).mono ?_;rintro e w' ⟨rfl,rfl⟩))
  go_ret
  exact ⟨rfl,by (repeat' (first |with_reducible exact Chg.refl _ _|with_reducible assumption|with_reducible refine Chg.drew ?_|with_reducible refine Chg.drewN ?_ _|with_reducible refine Chg.alloc ?_ _|with_reducible refine Chg.putRow ?_ _ _ _ (.inr ?_)|with_reducible refine Chg.setCell ?_ _ _ _ (.inr ?_)|(show _≤_;first |exact Nat.le_refl _|omega|(simp;done))))⟩
theorem sl_none (w:World):Sl w 13 none 0 (cat Sd.enc ([]:List Sd)):=⟨rfl,.inl rfl⟩
def Qai (c:Cg) (es:List Ent) (i:Nat) (e:En):Int:=if e.di=true then Qdw c.li c.qu es i else 0
def Jl (c:Cg) (es:List Ent) (i:Nat) (e:En):List Ent:=if e.di=true then pushEs c.li c.qu es i e.l e.h else es
theorem zsave_ok (i:Nat) (e:En) (w:World) (h:Msd W w c z L en es xs) (he:en[i]? =some e):Calls Tryz.prog 131 #[.pointer (some ⟨z.sy,0,none⟩),.int .i64 i] w fun r w'=>r=.returned (.int .i64 (Qai c es i e))∧∃be',MTo W w c z L {z with be:=be'} L en (Jl c es i e) xs w':=by
 cases hd:e.di
 ·rw [show Qai c es i e=0 by unfold Qai;rw [if_neg (by simp [hd])],show Jl c es i e=es by unfold Jl;rw [if_neg (by simp [hd])]]
  exact (zsave_clean i e w h he hd).mono fun r w' hr=>⟨hr.1,z.be,h.stay hr.2⟩
 ·rw [show Qai c es i e=Qdw c.li c.qu es i by unfold Qai;rw [if_pos hd],show Jl c es i e=pushEs c.li c.qu es i e.l e.h by unfold Jl;rw [if_pos hd]]
  exact zsave_dirty i e w h he hd
theorem zdrop_go (i:Nat) (e:En) (w:World) (h:Msd W w c z L en es xs) (hT:Tab W) (he:en[i]? =some e) (hd:Qdb e=false) (v:Int) (hv:Qai c es i e=v) (es':List Ent) (hs:Jl c es i e=es') (M:Nat) (hM:∀x∈ports L,x.dn.length≤M) (hMn:M≤1000):
 Calls Tryz.prog 96 #[.pointer (some ⟨z.sy,0,none⟩),.int .i64 i] w fun r w'=>(v≠0∧r=.returned (.int .i64 v)∧∃be',MTo W w c z L {z with be:=be'} L en es' xs w')∨
  (v=0∧r=.returned (.int .i64 0)∧∃be' ks' L',MTo W w c z L {z with be:=be',ks:=ks'} L' (en.set i enE) es' xs w'∧ports L'=ports L):=by
 have hi:i<c.li:=by rw [←h.lines];exact (Vg he).1
 have rS:=h.sys
 have rE:=h.ents
 have oS:=old rS
 have oE:=old rE
 have p0:=fun t f=>erow he t f
 have p1:=fun t f=>Qek he t f
 have g0:(0:Int)≤(i:Int):=by omega
 have g1:(i:Int)<(c.li:Int):=by omega
 have HH:=Vh h
 have HB:=Vh (show inB (i:Int) c.li=true by unfold inB;simp;omega)
 have HE:=Vh he
 have h1:e.he=true:=by unfold Qdb at hd;cases h0:e.he<;>simp [h0] at hd ⊢
 have h2:decide (0≤e.ow)=false:=by unfold Qdb at hd;rw [h1] at hd;simp at hd;simpa using hd.1.1
 have h3:(e.sh !=0#8)=false:=by unfold Qdb at hd;rw [h1] at hd;simp at hd;simpa using hd.1.2
 have h4:(e.bu !=0)=false:=by unfold Qdb at hd;rw [h1] at hd;simp at hd;simpa using hd.2
 have HS:=Vh (fun w1 (c1:Chg [] w w1)=>hs▸hv▸zsave_ok i e w1 (h.keep c1) he)
 have HT:=Vh hT
 have HMM:=Vh hM
 have HMN:=Vh hMn
 clear h he hi hd hv hs hT hM hMn
 go_enter Tryz.func96,Tryz.ntmps96
 try dsimp only [List.append]
 go_wp2_with (first |(go_at_call 78;refine (ZT (i:Int) true HB.out _ HH.out).mono ?_;rintro e w' ⟨rfl,rfl⟩))
 have C1:=Vh ((Chg.refl [] w).alloc (.cells (ec e) 120))
 refine (HS.out _ C1.out).mono ?_
 rintro r w2 ⟨rfl,be',M2⟩
 have HM2:=Vh ((HH.out.stay C1.out).trans M2)
 clear M2
 by_cases hv:v=0
 ·obtain rfl:=hv
  go_wp2_with fail
  refine (Qea _).mono ?_
  rintro r w3 ⟨rfl,c3⟩
  have HM3:=Vh (HM2.out.trans (HM2.out.1.stay c3))
  clear c3
  go_wp2_with fail
  refine (Qdv i e enE none 0 0 [] w3 HM3.out.1 HT.out HE.out rfl (sl_none _) (by simp) (by simp) M HMM.out (by have:=HMN.out;omega)).mono ?_
  rintro r w4 ⟨rfl,L',M4,hp⟩
  have HM4:=Vh (HM3.out.trans M4)
  have HPP:=Vh hp
  clear M4 hp
  go_wp2_with fail
  refine (HM4.out.1.count 14 (by decide) (by decide)).mono ?_
  rintro r w5 ⟨⟨v,rfl⟩,ks',M5⟩
  have HM5:=Vh (HM4.out.trans M5)
  clear M5
  go_wp2_with fail
  go_ret
  have hfin:∃be' ks' L',MTo W w c z L {z with be:=be',ks:=ks'} L' (en.set i enE) es' xs w5∧ports L'=ports L:=⟨be',ks',L',HM5.out,HPP.out⟩
  first
   |exact .inr ⟨rfl,rfl,hfin⟩
   |exact ⟨rfl,hfin⟩
 ·have tv:(v !=0)=true:=by simpa using hv
  go_wp2_with fail
  go_ret
  first
   |exact .inl ⟨hv,rfl,be',HM2.out⟩
   |exact ⟨rfl,be',HM2.out⟩
theorem zmemory_ok (w:World) (h:Msd W w c z L en es xs):Calls Tryz.prog 22 #[.pointer (some ⟨z.sy,0,none⟩)] w (Qf0 w c.li (over xs es)):=by
 have rS:=h.sys
 have HG:=Vh (qimage_ok z.q z.be z.g z.b c.li c.vo c.qu es xs w h.mem.2.1 h.mem.2.2.1)
 clear h
 go_enter Tryz.func22,Tryz.ntmps22
 try dsimp only [List.append]
 go_wp2_with fail
 refine HG.out.mono ?_
 rintro r w2 ⟨g,cap,r1,rfl,h1,h2,h3,hc⟩
 have H1:=Vh h1
 have H2:=Vh h2
 have H3:=Vh h3
 have HC:=Vh hc
 clear h1 h2 h3 hc
 go_wp2_with fail
 go_ret
 exact ⟨g,cap,r1,rfl,H1.out,H2.out,H3.out,HC.out⟩
def Qus (w:World) (x:Pt):Ending→World→Prop:=fun e w'=>∃A1 n1 A2 n2 A3 n3,e=.returned (.tuple #[.slice A1 x.up.length n1,.slice A2 x.an.length n2,.slice A3 x.dn.length n3])∧Sl w' 12 A1 x.up.length (cat Ms.enc x.up)∧Sl w' 12 A2 x.an.length (cat Ms.enc x.an)∧Sl w' 12 A3 x.dn.length (cat Ms.enc x.dn)∧Chg [] w w'
theorem zqueues_ok (i:Nat) (p:Po) (x:Pt) (w:World) (h:Msd W w c z L en es xs) (hy:L[i]? =some (p,x)) (h1:x.up.length≤1000) (h2:x.an.length≤1000) (h3:x.dn.length≤1000):Calls Tryz.prog 75 #[.pointer (some ⟨z.sy,0,none⟩),.int .i64 i] w (Qus w x):=by
 have hi:i<c.co:=by rw [←h.cores];exact (Vg hy).1
 have rS:=h.sys
 have HH:=Vh h
 have HI:=Vh hi
 have HQ1:=Vh (fun w1 (c1:Chg [] w w1)=>(h.keep c1).all_up hy h1)
 have HQ2:=Vh (fun w1 (c1:Chg [] w w1)=>(h.keep c1).all_an hy h2)
 have HQ3:=Vh (fun w1 (c1:Chg [] w w1)=>(h.keep c1).all_dn hy h3)
 obtain ⟨n1,hn1⟩:∃n,x.up.length=n:=⟨_,rfl⟩
 obtain ⟨n2,hn2⟩:∃n,x.an.length=n:=⟨_,rfl⟩
 obtain ⟨n3,hn3⟩:∃n,x.dn.length=n:=⟨_,rfl⟩
 clear h hi h1 h2 h3 hn1 hn2 hn3 hy
 go_enter Tryz.func75,Tryz.ntmps75
 try dsimp only [List.append]
 go_wp2_with (first |(go_at_call 102;refine (YY i _ HH.out HI.out).mono ?_;rintro e w' ⟨rfl,rfl⟩))
 go_upto_region 4 with fail
 go_region_held3 (fun w'=>w'.heap[z.sy]? =some (.cells (z.enc c).toArray 116 (0,0)))
  (first |exact T3.keep rS Vn|exact T2.keep rS Vn|exact T1.keep rS Vn|exact rS)
  (first
   |(go_at_call 103;(first
    |(refine (HQ3.out _ T2).mono ?_;rintro e w' ⟨A3,m3,rfl,s3,c3⟩;have T3:=T2.trans c3)
    |(refine (HQ2.out _ T1).mono ?_;rintro e w' ⟨A2,m2,rfl,s2,c2⟩;have T2:=T1.trans c2)
    |(refine (HQ1.out _ (Chg.refl [] w).drew).mono ?_;rintro e w' ⟨A1,m1,rfl,s1,c1⟩;have T1:=(Chg.refl [] w).drew.trans c1))))
 all_goals
  clear rS
  go_wp2_with fail
  go_ret3
  exact ⟨A1,m1,A2,m2,A3,m3,rfl,(s1.chg c2 (by simp)).chg c3 (by simp),s2.chg c3 (by simp),s3,T3⟩
end
end
section
theorem mul64_one (n:Nat) (hn:n≤64) (w:World):Calls Tryz.prog 142 #[.int .u64 1,.int .u64 n] w fun e w'=>e=.returned (.tuple #[.int .u64 0,.int .u64 n])∧w=w':=by
 have b1:bits BinOp.and IntKind.u64 1 4294967295=1:=by decide
 have b0:bits BinOp.and IntKind.u64 0 4294967295=0:=by decide
 have b2:bits BinOp.and IntKind.u64 (n:Int) 4294967295=(n:Int):=by
  have:∀k:Fin 65,bits BinOp.and IntKind.u64 ((k.val:Nat):Int) 4294967295=((k.val:Nat):Int):=by decide
  exact this ⟨n,by omega⟩
 have d0:(n:Int) / 4294967296=0:=by omega
 have w1:IntKind.u64.wrap (n:Int)=(n:Int):=by
  have:∀k:Fin 65,IntKind.u64.wrap ((k.val:Nat):Int)=((k.val:Nat):Int):=by decide
  exact this ⟨n,by omega⟩
 have w0:IntKind.u64.wrap 0=0:=by decide
 go_enter Tryz.func142,Tryz.ntmps142
 try dsimp only [List.append]
 go_wp2_with fail
 go_ret2
 exact ⟨by simp,rfl⟩
theorem mul_one (n:Nat) (hn:n≤64) (w:World):Calls Tryz.prog 108 #[.int .u64 1,.int .u64 n] w fun e w'=>e=.returned (.tuple #[.int .u64 0,.int .u64 n])∧w=w':=by
 go_enter Tryz.func108,Tryz.ntmps108
 try dsimp only [List.append]
 go_wp2_with (first |(go_at_call 142;refine (mul64_one n hn _).mono ?_;rintro e w' ⟨rfl,rfl⟩))
 go_ret2
 exact ⟨rfl,rfl⟩
theorem made_sq {α:Type} {enc:α→List Value} {k:Nat} (hk:∀a,(enc a).length=k) (h0:0<k) (a0:α) (n:Nat):madeCells (enc a0).toArray (n*k)=sq enc (List.replicate n a0) []:=by
 apply Array.ext
 ·rw [Jw hk];simp [madeCells]
 ·intro i h1 h2
  have hi:i<n*k:=by simpa [madeCells] using h1
  obtain ⟨j,d,hj,hd,rfl⟩:∃j d,j<n∧d<k∧i=j*k+d:=⟨i / k,i % k,by rw [Nat.div_lt_iff_lt_mul h0];exact hi,Nat.mod_lt _ h0,by rw [Nat.mul_comm];exact (Nat.div_add_mod i k).symm⟩
  have h3:(List.replicate n a0)[j]? =some a0:=by rw [List.getElem?_replicate,if_pos hj]
  have h4:=JM hk h3 [] d hd
  rw [Array.getElem?_eq_getElem h2] at h4
  have e11:(enc a0).toArray.size=k:=by simp [hk]
  have hmod:(j*k+d) % k=d:=by rw [Nat.add_comm,Nat.add_mul_mod_self_right,Nat.mod_eq_of_lt hd]
  simp only [madeCells,Array.getElem_map,Array.getElem_range]
  have h5:((enc a0).toArray)[d]? =(enc a0)[d]?:=by rw [List.getElem?_toArray]
  rw [←h4,Array.getElem?_eq_getElem (by rw [e11];exact hd)] at h5
  rw [e11,hmod,getElem!_pos (enc a0).toArray d (by rw [e11];exact hd)]
  exact Option.some.inj h5
section
variable {P:Program} {t e:TypeId} {ty:TypeId}
theorem run_copy_min {t':TypeId} {i:TypeInfo} (ht:P.underlying t=some (.slice e)) (hi:P.info? e=some i) (w:World) (b o:Nat) (A:Option Addr) (n c m d k:Nat) (xs:List Value) (hk:Nat.min n m=k) (h:Sl w i.size A k xs) (h1:∀v∈xs,v.oneCell'=true) (hb:ZO (w.heap[b]?) o xs.length=true):
 copR P t t' ty #[.slice (some ⟨b,o,none⟩) m d,.slice A n c] w=.ok (goInt k) (putRow w b o xs.toArray):=by
 have hf:=Yb (P:=P) w i.size k A n c xs h
 have hst:=run_storeCells_cells (P:=P) b o xs 0 w ?_ ?_ h1
 ·simp only [Nat.add_zero] at hst
  simp [copR,Builtin.copy_,run_underlying ht,Builtin.lenOf,sizeOf,typeInfo,hi,hf,hst,putRow,hk]
 all_goals
  intro j hj
  rw [Nat.add_zero]
  cases e:w.heap[b]? with
  |none=>rw [e] at hb;cases hb
  |some x=>
   rw [e] at hb
   cases x with
   |cells c t f=>
    simp [ZO] at hb
    obtain ⟨hb,rfl⟩:=hb
    have:=hb.out
    first
     |(rw [QE,e,Qb];simp;omega)
     |(rw [Qs,e,Qa])
   |_=>simp [ZO] at hb
end
theorem cat_more {α:Type} {k:Nat} {enc:α→List Value} (hk:∀a,(enc a).length=k) (xs ys zs:List α) (h:zs.length≤ys.length):Zx (cat enc (xs++ys)) (xs.length*k) (cat enc zs)=cat enc (xs++zs++ys.drop zs.length):=by
 unfold Zx
 rw [Y8,Y8,Y8,List.take_left' (Q7 hk xs),List.drop_append,List.drop_eq_nil_of_le (by rw [Q7 hk,Q7 hk];omega),Q7 hk,Q7 hk,List.nil_append,Nat.add_sub_cancel_left]
 congr 1
 have:∀(n:Nat) (l:List α),(cat enc l).drop (n*k)=cat enc (l.drop n):=by
  intro n
  induction n with
  |zero=>intro l;simp
  |succ n ih=>
   intro l
   cases l with
   |nil=>simp [cat]
   |cons a l=>
    rw [List.drop_succ_cons,←ih l,XY,Nat.add_mul,Nat.one_mul,Nat.add_comm,←hk a,List.drop_append]
    simp
 exact this _ _
theorem en_info:(Tryz.prog.info? 120).map (fun i=>(i.zero,i.size,i.bytes))=some (some (.agg (ec enZ)),15,112):=by kernel_rfl
def repE (e:En) (n k:Nat):List En:=List.replicate k e++List.replicate (n-k) enZ
theorem repE_len (e:En) (n k:Nat) (h:k≤n):(repE e n k).length=n:=by simp [repE];omega
theorem repE_zero (e:En) (n:Nat):repE e n 0=List.replicate n enZ:=by simp [repE]
theorem repE_all (e:En) (n:Nat):repE e n n=List.replicate n e:=by simp [repE]
theorem repE_put (e:En) (n k j:Nat) (hj:k+j≤n) (t:TypeId) (f:Nat×Nat):JZ (some (.cells (sq En.enc (repE e n k) []) t f)) (k*15) (cat En.enc (List.replicate j e)).toArray=some (.cells (sq En.enc (repE e n (k+j)) []) t f):=by
 rw [Xx,X7,List.append_nil,List.toList_toArray]
 have h1:Zx (cat En.enc (repE e n k)) (k*15) (cat En.enc (List.replicate j e))=cat En.enc (repE e n (k+j)):=by
  have h2:=cat_more En.len (List.replicate k e) (List.replicate (n-k) enZ) (List.replicate j e) (by simp;omega)
  rw [List.length_replicate] at h2
  unfold repE
  rw [h2,List.length_replicate,List.replicate_append_replicate,List.drop_replicate,show n-k-j=n-(k+j) by omega]
 rw [h1]
 unfold sq
 rw [List.append_nil]
theorem run_make_ents (w:World) (n:Nat) (hn:n≤64):mkR Tryz.prog 107 (.int .i64 n) (.int .i64 n) w=.ok (.slice (some ⟨w.heap.size,0,none⟩) n n) (w.alloc (.cells (sq En.enc (List.replicate n enZ) []) 120)):=by
 obtain ⟨i0,hi0,hz0,hz1,hz2⟩:=info_parts en_info
 have:=run_make (P:=Tryz.prog) w 107 120 i0 _ Tryz.underlying107 hi0 hz0 .i64 .i64 n n (by omega) (by omega) (by rw [hz2];omega) (by omega)
 simp only [Int.toNat_natCast,hz1] at this
 rw [←made_sq En.len (by decide)]
 exact this
theorem slR_from (w:World) (b n k:Nat) (hk:k<n):slR Tryz.prog 107 (.slice (some ⟨b,0,none⟩) n n) (some (.int .i64 k)) none none w=.ok (.slice (some ⟨b,k*15,none⟩) (n-k) (n-k)) w:=by
 obtain ⟨i0,hi0,hz0,hz1,hz2⟩:=info_parts en_info
 unfold slR
 have h1:(0:Int)≤(k:Int):=by omega
 have h4:k≤n:=by omega
 have h5:¬n=k:=by omega
 simp [Instr.slice,Instr.sliceBounds,Instr.sliceBound,asIntOf,run_underlying Tryz.underlying107,sizeOf,typeInfo,hi0,hz1,h1,h4,h5,Addr.add]
 omega
theorem slR_to (w:World) (b n k:Nat) (hk:k≤n):slR Tryz.prog 107 (.slice (some ⟨b,0,none⟩) n n) none (some (.int .i64 k)) none w=.ok (.slice (some ⟨b,0,none⟩) k n) w:=by
 obtain ⟨i0,hi0,hz0,hz1,hz2⟩:=info_parts en_info
 unfold slR
 have h1:(0:Int)≤(k:Int):=by omega
 simp [Instr.slice,Instr.sliceBounds,Instr.sliceBound,asIntOf,run_underlying Tryz.underlying107,sizeOf,typeInfo,hi0,h1,Addr.add]
 intro h;omega
theorem ent_copyS (w:World) (b e0 n k m d c:Nat) (A:Option Addr) (o:Nat) (xs:List En) (hk:Nat.min c m=k) (h:Sl w 15 A k (cat En.enc xs)) (hb:ZO (w.heap[b]?) o (cat En.enc xs).length=true):
 copR Tryz.prog 107 107 3 #[.slice (some ⟨b,o,none⟩) m d,.slice A c n] w=.ok (goInt k) (putRow w b o (cat En.enc xs).toArray):=by
 obtain ⟨i0,hi0,hz0,hz1,hz2⟩:=info_parts en_info
 rw [←hz1] at h
 exact run_copy_min Tryz.underlying107 hi0 w b o A c n m d k _ hk h (fun v hv=>Qb7 En.one xs v hv) hb
theorem repeat_ok (e:En) (b n:Nat) (w:World) (hb:w.heap[b]? =some (.cells (sq En.enc [e] []) 120 (0,0))) (h1:1≤n) (hn:n≤64):
 Calls Tryz.prog 85 #[.slice (some ⟨b,0,none⟩) 1 1,.int .i64 n] w fun r w'=>∃b',r=.returned (.slice (some ⟨b',0,none⟩) n n)∧w'.heap[b']? =some (.cells (sq En.enc (List.replicate n e) []) 120 (0,0))∧w.heap.size≤b'∧Chg [] w w':=by
 have hmk:=fun W=>run_make_ents W n hn
 have HB:=Vh hb
 have OB:=Vh (old hb)
 have g0:(0:Int)≤(n:Int):=by omega
 have g1:(n:Int)≤64:=by omega
 have t1:decide ((n:Int)<0)=false:=by simp
 have u1:IntKind.u64.wrap (n:Int)=(n:Int):=by
  have:∀k:Fin 65,IntKind.u64.wrap ((k.val:Nat):Int)=((k.val:Nat):Int):=by decide
  exact this ⟨n,by omega⟩
 have u2:IntKind.i64.wrap (n:Int)=(n:Int):=by
  have:∀k:Fin 65,IntKind.i64.wrap ((k.val:Nat):Int)=((k.val:Nat):Int):=by decide
  exact this ⟨n,by omega⟩
 have t2:decide ((9223372036854775807:Int)<(n:Int))=false:=by simp;omega
 have c1:=(Chg.refl [] w).alloc (.cells (sq En.enc (List.replicate n enZ) []) 120)
 have hz:(w.alloc (.cells (sq En.enc (List.replicate n enZ) []) 120)).heap[w.heap.size]? =some (.cells (sq En.enc (repE e n 0) []) 120 (0,0)):=by rw [repE_zero];simp
 have hcp:=ent_copyS (w.alloc (.cells (sq En.enc (List.replicate n enZ) []) 120)) w.heap.size 0 1 1 n n 1 (some ⟨b,0,none⟩) 0 [e] (Nat.min_eq_left h1) ⟨by rw [Q7 En.len];rfl,.inr ⟨b,0,_,_,_,rfl,c1.keep hb (by simp),by rw [X7,List.append_nil,List.drop_zero,List.take_of_length_le (by rw [Q7 En.len];exact Nat.le_refl _)]⟩⟩ (by
  rw [hz,Qd,Jw En.len,repE_len e n 0 (by omega),Q7 En.len]
  exact decide_eq_true (show 0+[e].length*15≤n*15+([]:List Value).length by simp;omega))
 have hw2:(putRow (w.alloc (.cells (sq En.enc (List.replicate n enZ) []) 120)) w.heap.size 0 (cat En.enc [e]).toArray).heap[w.heap.size]? =some (.cells (sq En.enc (repE e n 1) []) 120 (0,0)):=by
  rw [Qc _ _ _ _ _ (by
   rw [hz,Qd,Jw En.len,repE_len e n 0 (by omega)]
   refine decide_eq_true (show 0+(cat En.enc [e]).toArray.size≤n*15+([]:List Value).length from ?_)
   rw [List.size_toArray,Q7 En.len];simp;omega),if_pos rfl,hz]
  have:=repE_put e n 0 1 (by omega) 120 (0,0)
  simpa using this
 have HC2:=Vh (c1.putRow w.heap.size 0 (cat En.enc [e]).toArray (.inr (Nat.le_refl _)))
 have HW2:=Vh hw2
 clear hb hz c1 hw2
 go_enter Tryz.func85,Tryz.ntmps85
 try dsimp only [List.append]
 go_wp2_with (first |(go_at_call 108;refine (mul_one n hn _).mono ?_;rintro e w' ⟨rfl,rfl⟩))
 have HLE:=Vh (Nat.le_refl w.heap.size)
 generalize hb2:w.heap.size=b2 at hcp HC2 HW2 HLE ⊢
 have HB2:=Vh hb2
 generalize putRow (w.alloc (.cells (sq En.enc (List.replicate n enZ) []) 120)) b2 0 (cat En.enc [e]).toArray=w3 at HC2 HW2 ⊢
 clear hcp hb2
 go_loopw [8] (fun ix wr=>∃k:Nat,1≤k∧k≤n∧ix=.int .i64 k∧wr.heap[b2]? =some (.cells (sq En.enc (repE e n k) []) 120 (0,0))∧Chg [] w wr) (fun ix _=>n-(intOf ix).toNat)
 case atStart=>exact ⟨1,by omega,h1,rfl,HW2.out,HC2.out⟩
 case round=>
  obtain ⟨k,hk1,hkn,rfl,hk,hck⟩:=hrel
  by_cases hlt:k<n
  ·have q1:(k:Int)<(n:Int):=by omega
   have HCK:=Vh hck
   have HK:=Vh hk
   have s1:=fun W=>slR_from W b2 n k hlt
   have s2:=fun W=>slR_to W b2 n k hkn
   obtain ⟨j,hj⟩:∃j,min k (n-k)=j:=⟨_,rfl⟩
   have hj1:1≤j∧k+j≤n:=by omega
   have hjk:j≤k:=by omega
   have hwr:wrap64 ((k:Int)+(j:Int))=((k+j:Nat):Int):=by unfold wrap64;omega
   have hro:ZO ((wr.drew).heap[b2]?) (k*15) (cat En.enc (List.replicate j e)).length=true:=by
    rw [Qk,hk,Qd,Jw En.len,repE_len e n k hkn,Q7 En.len,List.length_replicate]
    refine decide_eq_true (show k*15+j*15≤n*15+([]:List Value).length from ?_)
    simp;omega
   have hcp:=ent_copyS wr.drew b2 0 n j (n-k) (n-k) k (some ⟨b2,0,none⟩) (k*15) (List.replicate j e) hj ⟨by rw [Q7 En.len,List.length_replicate],.inr ⟨b2,0,_,_,_,rfl,hk,by
    rw [X7,List.append_nil,List.drop_zero,Qfq En.len]
    unfold repE
    rw [List.take_append_of_le_length (by simp;omega),List.take_replicate,Nat.min_eq_left hjk]⟩⟩ hro
   have hw4:(putRow wr.drew b2 (k*15) (cat En.enc (List.replicate j e)).toArray).heap[b2]? =some (.cells (sq En.enc (repE e n (k+j)) []) 120 (0,0)):=by
    rw [Qc _ _ _ _ _ (by rw [List.size_toArray];exact hro),if_pos rfl,Qk,hk]
    exact repE_put e n k j hj1.2 _ _
   have HW4:=Vh hw4
   have HJ:=Vh hj1
   have HC4:=Vh (hck.drew.putRow b2 (k*15) (cat En.enc (List.replicate j e)).toArray (.inr (by rw [HB2.out];exact Nat.le_refl _)))
   have HWR:=Vh hwr
   clear hk hck hj hj1 hjk hro hw4 hwr
   go_wp2_with fail
   go_region
   all_goals
    go_wp2_with fail
    go_roundw
    case rel=>exact ⟨k+j,by have:=HJ.out;omega,HJ.out.2,by rw [HWR.out],HW4.out,HC4.out⟩
    case measure=>have:=HJ.out;rw [HWR.out];simp only [intOf];omega
  ·obtain rfl:k=n:=by omega
   have HK:=Vh hk
   have HCK:=Vh hck
   clear hk hck
   go_wp2_with fail
   go_ret
   refine ⟨b2,rfl,?_,by rw [HB2.out];exact Nat.le_refl _,HCK.out⟩
   rw [←repE_all]
   exact HK.out
end
section
def zp (o:Option Nat):List Value:=[.pointer (o.map fun g=>⟨g,0,none⟩),.slice none 0 0,.slice none 0 0,.slice none 0 0,.slice none 0 0,.slice none 0 0,.slice none 0 0]
theorem zp_len (o:Option Nat):(zp o).length=7:=rfl
theorem port_info:(Tryz.prog.info? 174).map (fun i=>(i.zero,i.size,i.bytes))=some (some (.agg (zp none).toArray),7,152):=by kernel_rfl
theorem run_make_ports (w:World) (n:Nat) (hn:n≤64):mkR Tryz.prog 106 (.int .i64 n) (.int .i64 n) w=.ok (.slice (some ⟨w.heap.size,0,none⟩) n n) (w.alloc (.cells (sq zp (List.replicate n none) []) 174)):=by
 obtain ⟨i0,hi0,hz0,hz1,hz2⟩:=info_parts port_info
 have:=run_make (P:=Tryz.prog) w 106 174 i0 _ Tryz.underlying106 hi0 hz0 .i64 .i64 n n (by omega) (by omega) (by rw [hz2];omega) (by omega)
 simp only [Int.toNat_natCast,hz1] at this
 rw [←made_sq zp_len (by decide)]
 exact this
abbrev Trip:=Nat×Nat×Nat
def Qf5 (gs:List Trip) (n:Nat):List (Option Nat):=gs.map (fun y=>some y.1)++List.replicate (n-gs.length) none
theorem rowsZ_nil (n:Nat):Qf5 [] n=List.replicate n none:=by simp [Qf5]
theorem rowsZ_at (gs:List Trip) (n:Nat) (h:gs.length<n):(Qf5 gs n)[gs.length]? =some none:=by
 unfold Qf5
 rw [List.getElem?_append_right (by simp),List.length_map,Nat.sub_self,List.getElem?_replicate,if_pos (by omega)]
theorem rowsZ_set (gs:List Trip) (n:Nat) (y:Trip) (h:gs.length<n):(Qf5 gs n).set gs.length (some y.1)=Qf5 (gs++[y]) n:=by
 unfold Qf5
 rw [List.set_append_right _ _ (by simp),List.length_map,Nat.sub_self,show n-gs.length=(n-(gs++[y]).length)+1 by simp;omega,List.replicate_succ,List.set_cons_zero,List.map_append]
 simp
def Qhq (gs:List Trip):List Nat:=gs.flatMap fun y=>[y.1,y.2.1,y.2.2]
theorem trips_snoc (gs:List Trip) (y:Trip):Qhq (gs++[y])=Qhq gs++[y.1,y.2.1,y.2.2]:=by simp [Qhq]
def st0 (c:Cg):Sta:=(List.replicate (c.se*c.wa) sltZ,0)
def pt0 (c:Cg):Pt:=⟨st0 c,[],[],[]⟩
def mkPo (po:Nat) (y:Trip):Po:=⟨y.1,y.2.1,y.2.2,po,none,0,po,none,0,po,none,0⟩
theorem mkPo_foot (po:Nat) (y:Trip):(mkPo po y).foot po=[y.1,y.2.1,y.2.2]:=by simp [Po.foot,mkPo,opt]
theorem Agt.weak {W w0 w:World} {g a b S N:Nat} {s:Sta} (h:Agt w0 w g a b S N s) (hc:Chg [] W w0):Agt W w g a b S N s:=
 ⟨⟨hc.trans h.1.1,h.1.2.1,Nat.le_trans hc.size h.1.2.2.1,Nat.le_trans hc.size h.1.2.2.2⟩,h.2.1,Nat.le_trans hc.size h.2.2.1,h.2.2.2⟩
theorem sq_oneE (e:En):sq En.enc [e] []=ec e:=by simp [sq,cat,ec]
theorem cat_map {α β:Type} (enc:β→List Value) (f:α→β) (xs:List α):cat enc (xs.map f)=cat (fun a=>enc (f a)) xs:=by unfold cat;rw [List.map_map];rfl
def Qcc (po:Nat) (c:Cg) (gs:List Trip):List (Po×Pt):=gs.map fun y=>(mkPo po y,pt0 c)
theorem portsOf_sq (po:Nat) (c:Cg) (gs:List Trip) (n:Nat) (h:gs.length=n):sq zp (Qf5 gs n) []=sq penc (Qcc po c gs) []:=by
 unfold sq Qf5 Qcc
 simp only [h,Nat.sub_self,List.replicate_zero,List.append_nil,cat_map]
 rfl
theorem Qgp (po:Nat) (c:Cg) (gs:List Trip):feet po (Qcc po c gs)=Qhq gs:=by
 unfold feet Qcc Qhq
 rw [List.map_map,List.flatMap_def]
 congr 1
 apply List.map_congr_left
 intro y _
 exact mkPo_foot po y
theorem portsOf_ports (po:Nat) (c:Cg) (gs:List Trip):ports (Qcc po c gs)=List.replicate gs.length (pt0 c):=by
 unfold ports Qcc
 rw [List.map_map]
 exact List.map_const'
structure Cg.Ok (c:Cg):Prop where
 co1:1≤c.co
 co8:c.co≤8
 li2:2≤c.li
 li64:c.li≤64
 vo1:1≤c.vo
 vol:c.vo<c.li
 new:Qcf (c.se:Int) (c.wa:Int)
 qu1:1≤c.qu
 qu16:c.qu≤16
 st1:1≤c.st
 st16:c.st≤16
def Fresh (W w:World) (c:Cg) (sy:Nat) (C:Array Value) (w':World):Prop:=
 ∃po en L,w'.heap[sy]? =some (.cells ((C.setIfInBounds 8 (.slice (some ⟨po,0,none⟩) c.co c.co)).setIfInBounds 9 (.slice (some ⟨en,0,none⟩) c.li c.li)) 116 (0,0))∧
  w'.heap[po]? =some (.cells (sq penc L []) 174 (0,0))∧L.length=c.co∧w'.heap[en]? =some (.cells (sq En.enc (List.replicate c.li enE) []) 120 (0,0))∧(∀y∈L,PortOk W w' po c.se c.wa y)∧
  ports L=List.replicate c.co (pt0 c)∧(po::en::feet po L).Nodup∧(∀k∈po::en::feet po L,w.heap.size≤k)∧Chg [sy] w w'
theorem Qh9 (W w:World) (c:Cg) (hc:c.Ok) (sy:Nat) (C:Array Value) (hW:Chg [] W w) (hsW:W.heap.size≤sy) (hs:w.heap[sy]? =some (.cells C 116 (0,0))) (c0:C[0]? =some (.int .i64 c.co)) (c1:C[1]? =some (.int .i64 c.li)) (c3:C[3]? =some (.int .i64 c.se)) (c4:C[4]? =some (.int .i64 c.wa))
 (v8 v9:Value) (c8:C[8]? =some v8) (c9:C[9]? =some v9):Calls Tryz.prog 54 #[.pointer (some ⟨sy,0,none⟩)] w fun e w'=>e=.returned (.tuple #[])∧Fresh W w c sy C w':=by
 have hmk:=fun W=>run_make_ports W c.co (by have:=hc.co8;omega)
 have HC:=Vh hc
 have HW:=Vh hW
 have HSW:=Vh hsW
 have H9:=Vh c9
 have H8:=Vh c8
 have os:=old hs
 have nsz:sy≠w.heap.size:=by have:=os.lt;omega
 have nsz':w.heap.size≠sy:=Ne.symm nsz
 have HS0:=Vh hs
 have gco:(c.co:Int)≤8:=by have:=hc.co8;omega
 clear hc hW hsW
 go_enter Tryz.func54,Tryz.ntmps54
 try dsimp only [List.append]
 go_upto_region 1 with fail
 have rS:((w.alloc (.cells (sq zp (List.replicate c.co none) []) 174)).setCell ⟨sy,8,none⟩ (.slice (some ⟨w.heap.size,0,none⟩) c.co c.co)).heap[sy]? =some (.cells (C.setIfInBounds 8 (.slice (some ⟨w.heap.size,0,none⟩) c.co c.co)) 116 (0,0)):=by
  rw [heap_setCell,if_pos rfl,heap_alloc,hs];rfl
 have rP:((w.alloc (.cells (sq zp (List.replicate c.co none) []) 174)).setCell ⟨sy,8,none⟩ (.slice (some ⟨w.heap.size,0,none⟩) c.co c.co)).heap[w.heap.size]? =some (.cells (sq zp (Qf5 [] c.co) []) 174 (0,0)):=by
  rw [heap_setCell,if_neg nsz',rowsZ_nil];exact Qbm _ _
 have K1:=Vh (((Chg.refl [sy] w).alloc (.cells (sq zp (List.replicate c.co none) []) 174)).setCell sy 8 (.slice (some ⟨w.heap.size,0,none⟩) c.co c.co) (.inl (by simp)))
 have d0:(C.setIfInBounds 8 (.slice (some ⟨w.heap.size,0,none⟩) c.co c.co))[0]? =some (.int .i64 c.co):=Qbi c0 (by decide)
 have d1:(C.setIfInBounds 8 (.slice (some ⟨w.heap.size,0,none⟩) c.co c.co))[1]? =some (.int .i64 c.li):=Qbi c1 (by decide)
 have d3:(C.setIfInBounds 8 (.slice (some ⟨w.heap.size,0,none⟩) c.co c.co))[3]? =some (.int .i64 c.se):=Qbi c3 (by decide)
 have d4:(C.setIfInBounds 8 (.slice (some ⟨w.heap.size,0,none⟩) c.co c.co))[4]? =some (.int .i64 c.wa):=Qbi c4 (by decide)
 have d8:(C.setIfInBounds 8 (.slice (some ⟨w.heap.size,0,none⟩) c.co c.co))[8]? =some (.slice (some ⟨w.heap.size,0,none⟩) c.co c.co):=set_this c8
 have d9:=Vh (show (C.setIfInBounds 8 (.slice (some ⟨w.heap.size,0,none⟩) c.co c.co))[9]? =some v9 from Qbi c9 (by decide))
 have HPO:=Vh (Nat.le_refl w.heap.size)
 have HSY:=Vh os.lt
 generalize hpo:w.heap.size=po at rS rP K1 d0 d1 d3 d4 d8 d9 nsz nsz' HPO HSY ⊢
 have HB:=Vh hpo
 generalize hC8:C.setIfInBounds 8 (.slice (some ⟨po,0,none⟩) c.co c.co)=C8 at rS d0 d1 d3 d4 d8 d9
 have HC8:=Vh hC8
 generalize (w.alloc (.cells (sq zp (List.replicate c.co none) []) 174)).setCell ⟨sy,8,none⟩ (.slice (some ⟨po,0,none⟩) c.co c.co)=w1 at rS rP K1 ⊢
 clear hpo hC8 hs os c0 c1 c3 c4 c8 c9 hmk
 go_wp2_with fail
 have hp1:po<w1.heap.size:=Xe rP
 go_loopw [17] (fun ix wr=>∃gs:List Trip,gs.length≤c.co∧ix=.int .i64 gs.length∧wr.heap[sy]? =some (.cells C8 116 (0,0))∧wr.heap[po]? =some (.cells (sq zp (Qf5 gs c.co) []) 174 (0,0))∧
  (∀y∈gs,Agt W wr y.1 y.2.1 y.2.2 c.se c.wa (st0 c))∧(Qhq gs).Nodup∧(∀x∈Qhq gs,po<x∧x<wr.heap.size)∧Chg [sy] w wr) (fun ix _=>c.co-(intOf ix).toNat)
 case atStart=>exact ⟨[],by simp,rfl,rS,rP,by simp,by simp [Qhq],by simp [Qhq],K1.out⟩
 case round=>
  clear rS rP hp1
  obtain ⟨gs,hg,rfl,rS,rP,hag,hnd,hlt,hch⟩:=hrel
  have HAG:=Vh hag
  have HND:=Vh hnd
  have HLT:=Vh hlt
  have HCH:=Vh hch
  clear hag hnd hlt hch
  obtain ⟨k,hk⟩:∃k,gs.length=k:=⟨_,rfl⟩
  have HKK:=Vh hk
  rw [hk] at hg ⊢
  clear hk
  by_cases hlk:k<c.co
  ·have g1:(k:Int)<(c.co:Int):=by omega
   have g0:(0:Int)≤(k:Int):=by omega
   have hnew:=gnew_ok c.se c.wa wr wr.drew (Chg.refl [] wr).drew HC.out.new
   have HN:=Vh hnew
   have RP:=Vh rP
   have hz:(sq zp (Qf5 gs c.co) [])[k*7]? =some (.pointer none):=by
    have h1:=rowsZ_at gs c.co (by rw [HKK.out];exact hlk)
    rw [HKK.out] at h1
    exact JM zp_len h1 [] 0 (by decide)
   have oS:=old rS
   have oP:=old rP
   clear hnew
   go_wp2_with fail
   go_region_held3 (fun w'=>w'.heap[sy]? =some (.cells C8 116 (0,0)))
    (first |(rw [heap_setCell,if_neg nsz];exact s5)|exact s5|exact rS)
    (first |(go_at_call 84;refine HN.out.mono ?_;rintro e w' ⟨g,a,b,rfl,hA5,hc5⟩;have s5:=hc5.keep rS Vn;have p5:=hc5.keep rP Vn;have o5:=old p5;have os5:=old s5))
   all_goals
    have hk0:=HKK.out
    have hlk':gs.length<c.co:=by rw [hk0];exact hlk
    have cp:Chg [po] w' (w'.setCell ⟨po,k*7,none⟩ (.pointer (some ⟨g,0,none⟩))):=(Chg.refl [po] w').setCell po (k*7) _ (.inl (by simp))
    have s6:(w'.setCell ⟨po,k*7,none⟩ (.pointer (some ⟨g,0,none⟩))).heap[sy]? =some (.cells C8 116 (0,0)):=by rw [heap_setCell,if_neg nsz];exact s5
    have p6:(w'.setCell ⟨po,k*7,none⟩ (.pointer (some ⟨g,0,none⟩))).heap[po]? =some (.cells (sq zp (Qf5 (gs++[(g,a,b)]) c.co) []) 174 (0,0)):=by
     rw [heap_setCell,if_pos rfl,p5,Qf]
     have h1:=rowsZ_at gs c.co hlk'
     have h2:=sq_put (o:=0) (b:=some g) (v:=.pointer (some ⟨g,0,none⟩)) zp_len h1 (by decide) rfl
     rw [rowsZ_set gs c.co (g,a,b) hlk',hk0,Nat.add_zero] at h2
     rw [h2]
    have hWr:Chg [] W wr:=HW.out.trans' HCH.out (fun x hx=>.inr (by rw [Vs hx];exact HSW.out))
    have hpW:W.heap.size≤po:=by rw [←HB.out];exact HW.out.size
    have hl2:=hA5.old2
    have hl1:=Xe hA5.2.1
    have hlg:=hA5.2.2.1
    have hla:=hA5.1.2.2
    have hgn:=hA5.2.2.2.1
    have hab:=hA5.1.2.1.2.2.1
    have hpr:=oP.lt
    have hcs:wr.heap.size≤w'.heap.size:=hc5.size
    have hsz6:(w'.setCell ⟨po,k*7,none⟩ (.pointer (some ⟨g,0,none⟩))).heap.size=w'.heap.size:=by simp
    simp only [List.mem_cons,Vn,or_false,forall_eq_or_imp,forall_eq] at hl2 hgn
    have HG6:=Vh (show ∀y∈gs++[(g,a,b)],Agt W (w'.setCell ⟨po,k*7,none⟩ (.pointer (some ⟨g,0,none⟩))) y.1 y.2.1 y.2.2 c.se c.wa (st0 c) by
     have hpl:∀x∈[po],W.heap.size≤x:=fun x hx=>by rw [Vs hx];exact hpW
     intro y hy
     rcases List.mem_append.1 hy with h1|h1
     ·have hin:∀x,x∈[y.1,y.2.1,y.2.2]→x∉[po]:=by
       intro x hx hm
       have h2:=(HLT.out x (List.mem_flatMap.2 ⟨y,h1,hx⟩)).1
       rw [Vs hm] at h2
       omega
      exact (((HAG.out y h1).keep (Chg.refl [] wr).drew).keep hc5).keepL cp hpl (hin _ (by simp)) (hin _ (by simp)) (hin _ (by simp))
     ·rw [Vs h1]
      exact (hA5.weak hWr).keepL cp hpl (by simp;omega) (by simp;omega) (by simp;omega))
    have HN6:=Vh (show (Qhq (gs++[(g,a,b)])).Nodup by
     rw [trips_snoc,List.nodup_append]
     refine ⟨HND.out,by simp;omega,?_⟩
     intro x hx y hy e
     subst e
     have h2:=(HLT.out x hx).2
     simp only [List.mem_cons,Vn,or_false] at hy
     omega)
    have HL6:=Vh (show ∀x∈Qhq (gs++[(g,a,b)]),po<x∧x<(w'.setCell ⟨po,k*7,none⟩ (.pointer (some ⟨g,0,none⟩))).heap.size by
     intro x hx
     rw [hsz6]
     rw [trips_snoc,List.mem_append] at hx
     rcases hx with h1|h1
     ·have:=HLT.out x h1;omega
     ·simp only [List.mem_cons,Vn,or_false] at h1
      omega)
    have HC6:=Vh ((HCH.out.trans (((Chg.refl [] wr).drew.trans hc5).mono (by simp))).setCell po (k*7) (.pointer (some ⟨g,0,none⟩)) (.inr (by rw [HB.out];exact Nat.le_refl _)))
    have hlen:(gs++[(g,a,b)]).length=k+1:=by simp [hk0]
    have S6:=Vh s6
    have P6:=Vh p6
    have HLN:=Vh hlen
    clear s5 p5 o5 os5 hA5 hc5 hk0 hlk' cp s6 p6 hWr hpW hl2 hl1 hlg hla hgn hab hpr hcs hsz6 hlen
    generalize w'.setCell ⟨po,k*7,none⟩ (.pointer (some ⟨g,0,none⟩))=w6 at *
    go_wp2_with fail
    go_roundw
    case rel=>exact ⟨gs++[(g,a,b)],by rw [HLN.out];omega,by rw [HLN.out];go_num,S6.out,P6.out,HG6.out,HN6.out,HL6.out,HC6.out⟩
    case measure=>simp [intOf];omega
  ·obtain rfl:k=c.co:=by omega
   have oS:=old rS
   have RP:=Vh rP
   have e9:=d9.out
   have s0:Qcx (wr.heap[sy]?) 1=some (.int .i64 c.li):=by rw [rS,Qb];exact d1
   clear rP
   go_wp2_with fail
   go_region_held3 (fun w'=>Qcx (w'.heap[sy]?) 1=some (.int .i64 c.li))
    (first |(rw [heap_setCell,if_pos rfl,s6,Qf,Qb];exact Qbi d1 (by decide))|(rw [s6,Qb];exact d1)|(rw [((Chg.refl [] _).alloc _).keep s5 Vn,Qb];exact d1)|(rw [s5,Qb];exact d1)|exact s0)
    (first
     |(go_at_call 79;refine (Qea _).mono ?_;rintro e w' ⟨rfl,c5⟩;have T5:=(Chg.refl [] wr).drew.trans c5;have s5:=T5.keep rS Vn)
     |(go_at_call 85;refine (repeat_ok enE _ c.li _ (by rw [sq_oneE];exact Qbm _ _) (by have:=HC.out.li2;omega) HC.out.li64).mono ?_;rintro e w' ⟨b9,rfl,e9b,l9,c6⟩;have T6:=(T5.alloc (.cells (ec enE) 120)).trans c6;have s6:=T6.keep rS Vn;have os6:=old s6))
   all_goals
    have hk0:=HKK.out
    have hpW:W.heap.size≤po:=by rw [←HB.out];exact HW.out.size
    have hcw:wr.heap.size≤w'.heap.size:=T6.size
    have hpo9:po<b9:=by have h1:=Xe RP.out;have h2:=T5.size;simp at l9;omega
    have hsy9:sy<b9:=by have h1:=HSY.out;omega
    have hl9:wr.heap.size≤b9:=by have h2:=T5.size;simp at l9;omega
    have cs:Chg [sy] w' (w'.setCell ⟨sy,9,none⟩ (.slice (some ⟨b9,0,none⟩) c.li c.li)):=(Chg.refl [sy] w').setCell sy 9 _ (.inl (by simp))
    have q1:(w'.setCell ⟨sy,9,none⟩ (.slice (some ⟨b9,0,none⟩) c.li c.li)).heap[sy]? =some (.cells ((C.setIfInBounds 8 (.slice (some ⟨po,0,none⟩) c.co c.co)).setIfInBounds 9 (.slice (some ⟨b9,0,none⟩) c.li c.li)) 116 (0,0)):=by
     rw [heap_setCell,if_pos rfl,s6,Qf,HC8.out]
    have q2:(w'.setCell ⟨sy,9,none⟩ (.slice (some ⟨b9,0,none⟩) c.li c.li)).heap[po]? =some (.cells (sq penc (Qcc po c gs) []) 174 (0,0)):=by
     rw [←portsOf_sq po c gs c.co hk0]
     exact cs.keep (T6.keep RP.out (by simp)) (by simpa using Ne.symm nsz)
    have q3:(w'.setCell ⟨sy,9,none⟩ (.slice (some ⟨b9,0,none⟩) c.li c.li)).heap[b9]? =some (.cells (sq En.enc (List.replicate c.li enE) []) 120 (0,0)):=cs.keep e9b (by simp;omega)
    have HF:=Vh (show Fresh W w c sy C (w'.setCell ⟨sy,9,none⟩ (.slice (some ⟨b9,0,none⟩) c.li c.li)) by
     refine ⟨po,b9,Qcc po c gs,q1,q2,by simp [Qcc,hk0],q3,?_,by rw [portsOf_ports,hk0],?_,?_,?_⟩
     ·intro y hy
      unfold Qcc at hy
      obtain ⟨y0,hy0,rfl⟩:=List.mem_map.1 hy
      have hin:∀x,x∈[y0.1,y0.2.1,y0.2.2]→x∉[sy]:=by
       intro x hx hm
       have h2:=(HLT.out x (List.mem_flatMap.2 ⟨y0,hy0,hx⟩)).1
       have h3:=HSY.out
       rw [Vs hm] at h2
       omega
      refine ⟨((HAG.out y0 hy0).keep T6).keepL cs (fun x hx=>by rw [Vs hx];exact HSW.out) (hin _ (by simp)) (hin _ (by simp)) (hin _ (by simp)),.inl ⟨rfl,rfl,rfl,rfl⟩,.inl ⟨rfl,rfl,rfl,rfl⟩,.inl ⟨rfl,rfl,rfl,rfl⟩⟩
     ·rw [Qgp,List.nodup_cons,List.nodup_cons]
      refine ⟨?_,?_,HND.out⟩
      ·intro hm
       rcases List.mem_cons.1 hm with h1|h1
       ·omega
       ·have:=(HLT.out _ h1).1;omega
      ·intro hm
       have:=(HLT.out _ hm).2;omega
     ·rw [Qgp]
      intro x hx
      rw [HB.out]
      rcases List.mem_cons.1 hx with h1|h1
      ·omega
      ·rcases List.mem_cons.1 h1 with h1|h1
       ·omega
       ·have:=(HLT.out x h1).1;omega
     ·exact (HCH.out.trans (T6.mono (by simp))).trans cs)
    clear cs q1 q2 q3 s5 s6 os6 T5 T6 c5 c6
    go_wp2_with fail
    go_end0
    exact ⟨rfl,HF.out⟩
end
section
theorem Qfk (z:Lay) (c:Cg):(z.enc c).toArray[0]? =some (.int .i64 c.co)∧(z.enc c).toArray[1]? =some (.int .i64 c.li)∧(z.enc c).toArray[3]? =some (.int .i64 c.se)∧(z.enc c).toArray[4]? =some (.int .i64 c.wa):=⟨rfl,rfl,rfl,rfl⟩
theorem enc_fresh (z:Lay) (c:Cg) (po en:Nat):((z.enc c).toArray.setIfInBounds 8 (.slice (some ⟨po,0,none⟩) c.co c.co)).setIfInBounds 9 (.slice (some ⟨en,0,none⟩) c.li c.li)=(({z with po:=po,en:=en}:Lay).enc c).toArray:=rfl
theorem mem_all {z:Lay} {L:List (Po×Pt)} {k:Nat}:k∈z.all L↔(k=z.sy∨k=z.q∨k=z.g∨k=z.b∨k=z.po∨k=z.en∨(k=z.be∧z.be≠z.q))∨k∈feet z.po L:=by
 unfold Lay.all Lay.base
 simp only [List.mem_append,List.mem_cons,Vn,or_false,XS]
 simp only [or_assoc]
theorem Qh4 {W w w':World} {c:Cg} {z:Lay} {es:List Ent} {xs:List Int} {C:Array Value} (he:∀po en:Nat,(C.setIfInBounds 8 (.slice (some ⟨po,0,none⟩) c.co c.co)).setIfInBounds 9 (.slice (some ⟨en,0,none⟩) c.li c.li)=(({z with po:=po,en:=en}:Lay).enc c).toArray) (hW:Chg [] W w) (hs:w.heap[z.sy]? =some (.cells C 116 (0,0))) (hsW:W.heap.size≤z.sy) (h6:z.ks.length=6)
 (hm:Sys W w z.q z.be z.g z.b c.li c.vo c.qu es xs) (hd:([z.sy,z.q,z.g,z.b]++opt z.q z.be).Nodup) (hf:Fresh W w c z.sy C w'):
 ∃po en L,Msd W w' c {z with po:=po,en:=en} L (List.replicate c.li enE) es xs∧ports L=List.replicate c.co (pt0 c)∧Chg [z.sy] w w'∧∀k∈({z with po:=po,en:=en}:Lay).all L,k∈[z.sy,z.q,z.g,z.b]++opt z.q z.be∨w.heap.size≤k:=by
 obtain ⟨po,en,L,h1,h2,h3,h4,h5,hp,hn,hl,hc⟩:=hf
 have hq:=hm.2.1.oldq.lt
 have hbe:=hm.2.1.olde.lt
 have hg:=hm.2.2.1.oldg
 have hb:=hm.2.2.1.oldb
 have hsy:=Xe hs
 have hWp:=hW.size
 have hmem:∀k∈({z with po:=po,en:=en}:Lay).all L,k∈[z.sy,z.q,z.g,z.b]++opt z.q z.be∨w.heap.size≤k:=by
  intro k hk
  rw [mem_all] at hk
  simp only [List.mem_append,List.mem_cons,Vn,or_false,XS]
  dsimp only at hk
  rcases hk with (h|h|h|h|h|h|h)|h
  ·simp [h]
  ·simp [h]
  ·simp [h]
  ·simp [h]
  ·exact .inr (by rw [h];exact hl po (by simp))
  ·exact .inr (by rw [h];exact hl en (by simp))
  ·exact .inl (.inr h)
  ·exact .inr (hl k (by simp [h]))
 have n1:=(List.nodup_append.1 hd).1
 simp only [List.nodup_cons,List.mem_cons,Vn,or_false,not_or] at n1
 have n2:z.be≠z.sy:=by
  intro e
  by_cases hbq:z.be=z.q
  ·exact n1.1.1 (by rw [←e,hbq])
  ·exact (List.nodup_append.1 hd).2.2 z.sy (by simp) z.sy (XS.2 ⟨e.symm,hbq⟩) rfl
 have hcw:=hW.trans' hc (fun x hx=>.inr (by rw [Vs hx];exact hsW))
 have hold:∀k∈[z.sy,z.q,z.g,z.b]++opt z.q z.be,k<w.heap.size:=by
  intro k hk
  simp only [List.mem_append,List.mem_cons,Vn,or_false,XS] at hk
  rcases hk with (h|h|h|h)|h
  ·omega
  ·omega
  ·omega
  ·omega
  ·omega
 refine ⟨po,en,L,⟨hcw,by rw [h1,he],h6,⟨hcw,hm.2.1.keep hc (by simp;exact fun e=>n1.1.1 e.symm) (by simpa using n2),hm.2.2.1.keep hc (by simp;exact fun e=>n1.1.2.1 e.symm) (by simp;exact fun e=>n1.1.2.2 e.symm),hm.2.2.2⟩,h2,h3,h4,by simp,h5,?_,?_⟩,hp,hc,hmem⟩
 ·have e1:({z with po:=po,en:=en}:Lay).all L=[z.sy,z.q,z.g,z.b]++([po,en]++(opt z.q z.be++feet po L)):=by
   unfold Lay.all Lay.base;simp
  have e2:([z.sy,z.q,z.g,z.b]++([po,en]++(opt z.q z.be++feet po L))).Perm (([z.sy,z.q,z.g,z.b]++opt z.q z.be)++(po::en::feet po L)):=by
   rw [List.append_assoc]
   refine List.Perm.append_left _ ?_
   rw [←List.append_assoc]
   refine (List.Perm.append_right _ List.perm_append_comm).trans ?_
   rw [List.append_assoc]
   rfl
  rw [e1,e2.nodup_iff,List.nodup_append]
  refine ⟨hd,hn,fun a ha b hb e=>?_⟩
  have:=hold a ha
  have:=hl b hb
  omega
 ·intro k hk
  rcases hmem k hk with h|h
  ·have hn2:=hm.2.2.2.2
   simp only [List.mem_append,List.mem_cons,Vn,or_false,XS] at h
   rcases h with (h|h|h|h)|h
   ·omega
   ·omega
   ·omega
   ·omega
   ·omega
  ·omega
section
variable {W:World} {c:Cg} {z:Lay} {L:List (Po×Pt)} {en:List En} {es:List Ent} {xs:List Int}
theorem zfail_ok (w:World) (h:Msd W w c z L en es xs) (hc:c.Ok):Calls Tryz.prog 98 #[.pointer (some ⟨z.sy,0,none⟩)] w fun e w'=>e=.returned (.tuple #[])∧∃z' L',MTo W w c z L z' L' (List.replicate c.li enE) [] (J4 (over xs es) c.vo) w'∧z'.sy=z.sy∧ports L'=List.replicate c.co (pt0 c):=by
 have rS:=h.sys
 have HH:=Vh h
 have HG:=Vh (sys_fail h.mem)
 have HC:=Vh hc
 clear h hc
 go_enter Tryz.func98,Tryz.ntmps98
 try dsimp only [List.append]
 go_wp2_with fail
 refine HG.out.mono ?_
 rintro e w2 ⟨rfl,be',hs2,hc2,hb2⟩
 have HM2:=Vh (HH.out.memory hs2 hc2 hb2)
 clear hs2 hc2 hb2 rS HG
 have n6:=HM2.out.1.nodupB
 have hf:=Qh9 W w2 c HC.out z.sy ((({z with be:=be'}:Lay)).enc c).toArray HM2.out.1.chg (HH.out.new _ (Lay.inB (Lay.beB (by simp)))) HM2.out.1.sys (Qfk _ c).1 (Qfk _ c).2.1 (Qfk _ c).2.2.1 (Qfk _ c).2.2.2 _ _ (Y4 _ c) (Y5 _ c)
 have HF:=Vh hf
 have HN:=Vh n6
 clear hf n6
 go_wp2_with fail
 refine HF.out.mono ?_
 rintro e w3 ⟨rfl,hfr⟩
 have hnd:([z.sy,z.q,z.g,z.b]++opt z.q be').Nodup:=by
  have h1:=HN.out
  unfold Lay.base at h1
  refine h1.sublist ?_
  refine List.Sublist.append ?_ (List.Sublist.refl _)
  exact (List.Sublist.refl [z.sy,z.q,z.g,z.b]).trans (List.sublist_append_left [z.sy,z.q,z.g,z.b] [z.po,z.en])
 obtain ⟨po,en',L',hm3,hp3,hc3,hk3⟩:=Qh4 (z:={z with be:=be'}) (fun po en=>enc_fresh {z with be:=be'} c po en) HM2.out.1.chg HM2.out.1.sys (HH.out.new _ (Lay.inB (Lay.beB (by simp)))) HM2.out.1.six HM2.out.1.mem hnd hfr
 have HR:=Vh (show MTo W w2 c {z with be:=be'} L {z with be:=be',po:=po,en:=en'} L' (List.replicate c.li enE) [] (J4 (over xs es) c.vo) w3 from ⟨hm3,hc3.mono (fun x hx=>.inl (by rw [Vs hx];exact Lay.inB (Lay.beB (by simp)))),fun k hk=>by
  rcases hk3 k hk with h1|h1
  ·refine .inl (mem_all.2 (.inl ?_))
   simp only [List.mem_append,List.mem_cons,Vn,or_false,XS] at h1
   dsimp only at h1 ⊢
   rcases h1 with (h|h|h|h)|h<;>simp [h]
  ·exact .inr h1⟩)
 have HP3:=Vh hp3
 clear hfr hm3 hp3 hc3 hk3 hnd
 go_wp2_with fail
 go_end0
 exact ⟨rfl,_,L',HM2.out.trans HR.out,rfl,HP3.out⟩
end
end
end Go.Proofs.YtcgjofbkcgedfaaGreatDoor
