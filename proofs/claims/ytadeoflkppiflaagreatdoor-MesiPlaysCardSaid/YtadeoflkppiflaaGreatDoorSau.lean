/- Texts of the walk, one behind the other: Ryf Ryg Ryh. No condition. -/
import Derived.Test.YtadeoflkppiflaaGreatDoorSaa
import Derived.Test.YtadeoflkppiflaaGreatDoorSaj
import Derived.Test.YtadeoflkppiflaaGreatDoorSao
import Derived.Test.YtadeoflkppiflaaGreatDoorSar
import Derived.Test.YtadeoflkppiflaaGreatDoorSas
import Derived.Test.YtadeoflkppiflaaGreatDoorSat
import Derived.BigQuiet
import Derived.Deep.Cut
import Derived.Deep.CutBlock
import Derived.Deep.CutRange
import Derived.Deep.DeepCutAuto
import Derived.Deep.QuietTactic
import Derived.Deep.RegionHeld3
import Derived.Deep.RegionWith
namespace Go.Proofs.YtadeoflkppiflaaGreatDoor
open Go.RowKit
set_option linter.unusedVariables false
set_option maxHeartbeats 1000000
set_option maxRecDepth 100000
attribute [local go_sem ↓] QA QQ QH Q8 QS QC Za QN Zs Zh Qm Ql heap_alloc Qo heap_setCell Qb ZF Z4 Z5 Z3 Zc ZB Zk ZI Zv ZM ZK ZN ZL
attribute [local go_sem] Qc Qa Qd Qj Qf Qe Qh Qi Qw ZE QZ Zq QO QG Q6 Q0 Q5 Zi Q9 QM QB QI Zj Q7 Qz QP Qt Qk Qs Qr Qq Qp Qg Zb Ze lit8 QF ZG Zr Zt ZC Zd Zy ZH Zz Qv ZA Zl Zm QE QD QR ZO
attribute [local simp ↓] Qm Ql heap_alloc Qo heap_setCell Qb
attribute [local simp] Qc Qa Qd Qj Qf Qe Qh Qi Qw QB Qk Qs Qr Qq Qp Qg QF Qv QE QD QR QI
attribute [local go_sem ↓] XP XQ XO XN XS XR XM XZ
attribute [local go_sem] Xi XV Xh ZR ZT QL Xp ZZ X3 Zw QW QV QU QY QX QT QK QJ Zg Zf Xm ZW
attribute [local simp] QL Zf QW QV QU QY QX QT QK QJ Zg
attribute [local go_sem ↓] Xo ZV Xn ZU Z0
attribute [local go_sem] Xk Xj ZY Xl Qx Qy Z6
attribute [local simp] Z0 Qx Qy QI Zw
attribute [local go_sem ↓] Xg Qac Jh Jj Jf Ji Jg
attribute [local simp] Xg
attribute [local go_sem ↓] Qag Jo Qa3 JH
attribute [local go_sem] J7 Qa2
section
theorem YW {α:Type} {k:Nat} {enc:α→List Value} (hk:∀a,(enc a).length=k) {xs:List α} {i:Nat} {a:α} (b:α) (h:xs[i]? =some a) (r:List Value) (t:TypeId) (f:Nat×Nat):Yx (some (.cells (sq enc xs r) t f)) (i*k) (enc b).toArray=some (.cells (sq enc (xs.set i b) r) t f):=by
 have hi:=(Vg h).1
 have hl:i*k+k≤(cat enc xs).length:=by
  rw [Zo hk]
  have:(i+1)*k≤xs.length*k:=Nat.mul_le_mul_right _ (by omega)
  rw [Nat.add_mul,Nat.one_mul] at this
  exact this
 have hb:=hk b
 have h1:=cat_row hk xs i a b h
 rw [XI,Yl,List.toList_toArray]
 unfold sq
 congr 2
 unfold Z9 at h1 ⊢
 rw [List.take_append_of_le_length (by omega),List.drop_append_of_le_length (by omega),←h1]
 simp [List.append_assoc]
theorem Qg0 {en:List En} {i:Nat} {e:En} (h:en[i]? =some e) (r:List Value) (t:TypeId) (f:Nat×Nat):Xq (some (.cells (sq En.enc en r) t f)) (i*15) 15=ec e:=by
 have:=Qba En.len h r t f 0 15 (by omega)
 rw [Nat.add_zero] at this
 rw [this,List.drop_zero,List.take_of_length_le (by rw [En.len];exact Nat.le_refl _)]
 rfl
theorem JU {en:List En} {i:Nat} {e:En} (h:en[i]? =some e) (r:List Value) (t:TypeId) (f:Nat×Nat):JM (some (.cells (sq En.enc en r) t f)) (i*15) 15=true:=Qdx En.len (Vg h).1 r t f 0 15 (by omega)
theorem Jd {en:List En} {i:Nat} {e:En} (h:en[i]? =some e) (r:List Value) (t:TypeId):Z7 (some (.cells (sq En.enc en r) t (0,0))) (i*15) 15=true:=by
 have:=JU h r t (0,0)
 rw [Qj] at this
 rw [Qd];exact this
section
variable {W:World} {c:Cg} {z:RLay} {L:List (Po×Pt)} {en:List En} {es:List Ent} {xs:List Int}
theorem rUp_no (k:Int) (w:World) (h:Rsd W w c z L en es xs) (hk:inB k c.co=false):Calls Tryz.prog 56 #[.pointer (some ⟨z.sy,0,none⟩),.int .i64 k] w fun r w'=>r=.returned (.int .i64 1)∧Chg [] w w':=by
 have HH:=Vh h
 have HK:=Vh hk
 clear h hk
 go_enter Tryz.func56,Tryz.ntmps56
 try dsimp only [List.append]
 go_wp2_with fail
 refine (Xr k false _ HH.out HK.out).mono ?_
 exact Tz33
set_option maxHeartbeats 4000000 in
theorem rUp_nil (i:Nat) (p:Po) (x:Pt) (w:World) (h:Rsd W w c z L en es xs) (hy:L[i]? =some (p,x)) (hu:x.up=[]):Calls Tryz.prog 56 #[.pointer (some ⟨z.sy,0,none⟩),.int .i64 i] w fun r w'=>r=.returned (.int .i64 14)∧Chg [] w w':=by
 have rS:=h.sys
 have rQ:=h.ports
 have hi:i<c.co:=by rw [←h.cores];exact (Vg hy).1
 have g0:(0:Int)≤(i:Int):=by omega
 have g1:(i:Int)<(c.co:Int):=by omega
 have HKC:=Vh (show inB (i:Int) c.co=true by unfold inB;simp;omega)
 have HH:=Vh h
 have HY:=Vh hy
 have oS:=old rS
 have oQ:=old rQ
 have hcell:(sq Yz L [])[i*3]? =some (.slice p.uA 0 p.uc):=by
  have h1:(sq Yz L [])[i*3]? =some (.slice p.uA x.up.length p.uc):=Qc6 hy 0 (by decide)
  rw [hu] at h1;exact h1
 clear h hy hu hi
 go_enter Tryz.func56,Tryz.ntmps56
 try dsimp only [List.append]
 go_wp2_with fail
 refine (Xr i true _ HH.out HKC.out).mono ?_
 exact Tz33
set_option maxHeartbeats 4000000 in
theorem rUp_busy (i:Nat) (p:Po) (x:Pt) (w:World) (h:Rsd W w c z L en es xs) (hy:L[i]? =some (p,x)) (m:Ms) (rest:List Ms) (j:Nat) (e:En) (hu:x.up=m::rest) (hm:m.li=(j:Int)) (he:en[j]? =some e) (hq:x.up.length≤1000) (hbu:e.bu≠0):Calls Tryz.prog 56 #[.pointer (some ⟨z.sy,0,none⟩),.int .i64 i] w fun r w'=>r=.returned (.int .i64 15)∧Chg [] w w':=by
 have rS:=h.sys
 have rQ:=h.ports
 have hi:i<c.co:=by rw [←h.cores];exact (Vg hy).1
 have g0:(0:Int)≤(i:Int):=by omega
 have g1:(i:Int)<(c.co:Int):=by omega
 have HKC:=Vh (show inB (i:Int) c.co=true by unfold inB;simp;omega)
 have HH:=Vh h
 have HY:=Vh hy
 have oS:=old rS
 have oQ:=old rQ
 have rE:=h.ents
 have hj:j<c.li:=by rw [←h.lines];exact (Vg he).1
 have g2:(0:Int)≤(j:Int):=by omega
 have g3:(j:Int)<(c.li:Int):=by omega
 have oE:=old rE
 have hk:=h.ok _ (List.mem_of_getElem? hy)
 obtain ⟨s0,up0,an0,dn0⟩:=x
 dsimp only at hu hq
 subst hu
 have hv1:Vof 12 38 Ms.enc w z.po p.ub p.uA p.uc (m::rest):=hk.2.1
 obtain ⟨hne,o',C',hAe,hb,hin,hp⟩:=hv1.first Ms.len
 have hp':Xq (some (.cells C' 38 (0,0))) o' 12=msc m:=hp
 have ob:=old hb
 have hcell:(sq Yz L [])[i*3]? =some (.slice (some ⟨p.ub,o',none⟩) (rest.length+1) p.uc):=by have:=Qc6 hy 0 (by decide);rw [←hAe];exact this
 have l6:(rest.length:Int)+1≤1000:=by simp at hq;omega
 have l7:(0:Int)<(rest.length:Int)+1:=by omega
 have tl:(((rest.length:Int)+1)==0)=false:=by simp;omega
 have p1:=fun t f=>Qg0 he z.er t f
 have p2:=fun t f=>JU he z.er t f
 have HE:=Vh he
 have HJL:=Vh hj
 have HM:=Vh hm
 have HAE:=Vh hAe
 have HV:=Vh hv1
 have HCELL:=Vh hcell
 obtain ⟨mk,ml,md,mke,mll,mh⟩:=m
 dsimp only at hm
 subst hm
 have tb:(e.bu !=0)=true:=by simpa using hbu
 clear h hy hi hj hk hp hv1 he hne hAe hbu hq
 go_enter Tryz.func56,Tryz.ntmps56
 try dsimp only [List.append]
 go_wp2_with fail
 refine (Xr i true _ HH.out HKC.out).mono ?_
 rintro e w' ⟨rfl,rfl⟩
 go_wp2_with fail
 have r5:(w.alloc (.cells (msc (⟨mk,(j:Int),md,mke,mll,mh⟩:Ms)) 38)).heap[w.heap.size]? =some (.cells (msc (⟨mk,(j:Int),md,mke,mll,mh⟩:Ms)) 38 (0,0)):=by simp
 have C1:=Vh ((Chg.refl [] w).alloc (.cells (msc (⟨mk,(j:Int),md,mke,mll,mh⟩:Ms)) 38))
 replace rS:=C1.out.keep rS Vn
 replace rQ:=C1.out.keep rQ Vn
 replace rE:=C1.out.keep rE Vn
 have NB5:=Vh (show w.heap.size∉z.all L from fun hm=>by have:=HH.out.old _ hm;omega)
 clear hb ob oS oQ oE
 generalize hb5:w.heap.size=b5 at r5 NB5 ⊢
 have HB5:=Vh hb5
 clear hb5
 generalize w.alloc (.cells (msc (⟨mk,(j:Int),md,mke,mll,mh⟩:Ms)) 38)=w1 at r5 C1 rS rQ rE ⊢
 have o5:=old r5
 have oS:=old rS
 have oQ:=old rQ
 have oE:=old rE
 have R5H:=Vh r5
 go_wp2_with fail
 go_region
 all_goals
  go_wp2_with fail
  go_ret
  exact ⟨rfl,C1.out.trans Cz0⟩
set_option maxHeartbeats 4000000 in
theorem rUp_go_true (i:Nat) (p:Po) (x:Pt) (w:World) (h:Rsd W w c z L en es xs) (hy:L[i]? =some (p,x)) (m:Ms) (rest:List Ms) (j:Nat) (e:En) (hu:x.up=m::rest) (hm:m.li=(j:Int)) (he:en[j]? =some e) (hq:x.up.length≤1000) (l8:List Int) (hl8:l8.length=8) (r9:En×List Sd) (hb0:e.bu=0) (hX:ln (over xs es) j=l8) (ha:askE (Qa4 e l8 hl8) i m=(r9,0)) (o00:Old W 0) (hto:∀d∈r9.2,0≤d.to∧d.to<c.co∧mg d.m=true) (M:Nat) (hM:∀y∈ports L,y.dn.length≤M) (hMn:M+r9.2.length≤1000) (hhe:e.he=true):Calls Tryz.prog 56 #[.pointer (some ⟨z.sy,0,none⟩),.int .i64 i] w fun r w'=>r=.returned (.int .i64 0)∧∃z' L',z'.sy=z.sy∧RTo W w c z L z' L' (en.set j r9.1) es xs w'∧ports L'=XY ((ports L).set i {x with up:=rest}) r9.2:=by
 have rS:=h.sys
 have rQ:=h.ports
 have hi:i<c.co:=by rw [←h.cores];exact (Vg hy).1
 have g0:(0:Int)≤(i:Int):=by omega
 have g1:(i:Int)<(c.co:Int):=by omega
 have HKC:=Vh (show inB (i:Int) c.co=true by unfold inB;simp;omega)
 have HH:=Vh h
 have HY:=Vh hy
 have oS:=old rS
 have oQ:=old rQ
 have rE:=h.ents
 have hj:j<c.li:=by rw [←h.lines];exact (Vg he).1
 have g2:(0:Int)≤(j:Int):=by omega
 have g3:(j:Int)<(c.li:Int):=by omega
 have oE:=old rE
 have hk:=h.ok _ (List.mem_of_getElem? hy)
 obtain ⟨s0,up0,an0,dn0⟩:=x
 dsimp only at hu hq
 subst hu
 have hv1:Vof 12 38 Ms.enc w z.po p.ub p.uA p.uc (m::rest):=hk.2.1
 obtain ⟨hne,o',C',hAe,hb,hin,hp⟩:=hv1.first Ms.len
 have hp':Xq (some (.cells C' 38 (0,0))) o' 12=msc m:=hp
 have ob:=old hb
 have hcell:(sq Yz L [])[i*3]? =some (.slice (some ⟨p.ub,o',none⟩) (rest.length+1) p.uc):=by have:=Qc6 hy 0 (by decide);rw [←hAe];exact this
 have l6:(rest.length:Int)+1≤1000:=by simp at hq;omega
 have l7:(0:Int)<(rest.length:Int)+1:=by omega
 have tl:(((rest.length:Int)+1)==0)=false:=by simp;omega
 have p1:=fun t f=>Qg0 he z.er t f
 have p2:=fun t f=>JU he z.er t f
 have HE:=Vh he
 have HJL:=Vh hj
 have HM:=Vh hm
 have HAE:=Vh hAe
 have HV:=Vh hv1
 have HCELL:=Vh hcell
 obtain ⟨mk,ml,md,mke,mll,mh⟩:=m
 dsimp only at hm
 subst hm
 have tb:(e.bu !=0)=false:=by simpa using hb0
 have HA:=Vh ha
 have HX:=Vh hX
 have H0:=Vh (o00.chg h.chg)
 have HTO:=Vh hto
 have HMM:=Vh hM
 have HMN:=Vh hMn
 have HHE:=Vh hhe
 clear h hy hi hj hk hp hv1 he hne hAe hb0 hq hX ha o00 hto hM hMn
 go_enter Tryz.func56,Tryz.ntmps56
 try dsimp only [List.append]
 go_wp2_with fail
 refine (Xr i true _ HH.out HKC.out).mono ?_
 rintro e w' ⟨rfl,rfl⟩
 go_wp2_with fail
 have r5:(w.alloc (.cells (msc (⟨mk,(j:Int),md,mke,mll,mh⟩:Ms)) 38)).heap[w.heap.size]? =some (.cells (msc (⟨mk,(j:Int),md,mke,mll,mh⟩:Ms)) 38 (0,0)):=by simp
 have C1:=Vh ((Chg.refl [] w).alloc (.cells (msc (⟨mk,(j:Int),md,mke,mll,mh⟩:Ms)) 38))
 replace rS:=C1.out.keep rS Vn
 replace rQ:=C1.out.keep rQ Vn
 replace rE:=C1.out.keep rE Vn
 have NB5:=Vh (show w.heap.size∉z.all L from fun hm=>by have:=HH.out.old _ hm;omega)
 clear hb ob oS oQ oE
 generalize hb5:w.heap.size=b5 at r5 NB5 ⊢
 have HB5:=Vh hb5
 clear hb5
 generalize w.alloc (.cells (msc (⟨mk,(j:Int),md,mke,mll,mh⟩:Ms)) 38)=w1 at r5 C1 rS rQ rE ⊢
 have o5:=old r5
 have oS:=old rS
 have oQ:=old rQ
 have oE:=old rE
 have R5H:=Vh r5
 go_wp2_with fail
 go_region
 all_goals
  have C6:=Vh (show Chg [] w1 (putRow (w1.alloc (.cells (ec enZ) 117)).drew w1.heap.size 0 (ec e)) from by (repeat' (first |with_reducible exact Chg.refl _ _|with_reducible assumption|with_reducible refine Chg.drew ?_|with_reducible refine Chg.drewN ?_ _|with_reducible refine Chg.alloc ?_ _|with_reducible refine Chg.putRow ?_ _ _ _ (.inr ?_)|with_reducible refine Chg.setCell ?_ _ _ _ (.inr ?_)|(show _≤_;first |exact Nat.le_refl _|omega|(simp;done)))))
  have r6:(putRow (w1.alloc (.cells (ec enZ) 117)).drew w1.heap.size 0 (ec e)).heap[w1.heap.size]? =some (.cells (ec e) 117 (0,0)):=by
   exact Tz118
  replace rS:=C6.out.keep rS Vn
  replace rQ:=C6.out.keep rQ Vn
  replace rE:=C6.out.keep rE Vn
  replace r5:=C6.out.keep r5 Vn
  have NB6:=Vh (show w1.heap.size∉z.all L from fun hm=>by have:=HH.out.old _ hm;have:=C1.out.size;omega)
  have LB6:=Vh (show w.heap.size≤w1.heap.size from C1.out.size)
  clear o5 oS oQ oE
  have N65:=Vh (show w1.heap.size≠b5 from Nat.ne_of_gt (old R5H.out).lt)
  generalize w1.heap.size=b6 at r6 C6 N65 NB6 LB6 rS rQ rE r5 ⊢
  generalize putRow (w1.alloc (.cells (ec enZ) 117)).drew b6 0 (ec e)=w6 at r6 C6 rS rQ rE r5 ⊢
  have o5:=old r5
  have o6:=old r6
  have oS:=old rS
  have oQ:=old rQ
  have oE:=old rE
  have hA9:askE e (i:Int) (⟨mk,(j:Int),md,mke,mll,mh⟩:Ms)=(r9,0):=by have h1:=HA.out;unfold Qa4 at h1;rw [if_pos HHE.out] at h1;exact h1
  have hr:=rask_okay e i (⟨mk,(j:Int),md,mke,mll,mh⟩:Ms) w6 (H0.out.chg (C1.out.trans C6.out)) (by rw [hA9])
  rw [hA9] at hr
  have HR:=Vh hr
  have C66:=Vh (C1.out.trans C6.out)
  have M66:=Vh (HH.out.stay C66.out)
  clear hr hA9
  go_wp2_with fail
  exact Tz31
end
end
section
theorem here_keep {wr:World} {e:En} {b6 b5 s:Nat} {l8:List Int} {oS o5:Obj} (rS:wr.heap[s]? =some oS) (r5:wr.heap[b5]? =some o5) (r6:wr.heap[b6]? =some (.cells (ec e) 117 (0,0))) (n1:b6≠s) (n2:b6≠b5) (hl:l8.length=8):
 (putRow wr b6 2 (vs l8)).heap[s]? =some oS∧(putRow wr b6 2 (vs l8)).heap[b5]? =some o5∧Z7 ((putRow wr b6 2 (vs l8)).heap[b6]?) 2 8=true:=by
 have h0:Z7 (wr.heap[b6]?) 2 (vs l8).size=true:=by rw [r6,Qw,hl];exact Zw e _
 have hc:=(Chg.refl [b6] wr).putRow b6 2 (vs l8) (.inl (by simp))
 refine ⟨hc.keep rS (by simpa using n1.symm),hc.keep r5 (by simpa using n2.symm),?_⟩
 rw [Qb _ _ _ _ _ h0,if_pos rfl,r6,ec_put e l8 hl]
 exact Zw _ _
section
variable {W:World} {c:Cg} {z:RLay} {L:List (Po×Pt)} {en:List En} {es:List Ent} {xs:List Int}
set_option maxHeartbeats 4000000 in
theorem rUp_go_false (i:Nat) (p:Po) (x:Pt) (w:World) (h:Rsd W w c z L en es xs) (hy:L[i]? =some (p,x)) (m:Ms) (rest:List Ms) (j:Nat) (e:En) (hu:x.up=m::rest) (hm:m.li=(j:Int)) (he:en[j]? =some e) (hq:x.up.length≤1000) (l8:List Int) (hl8:l8.length=8) (r9:En×List Sd) (hb0:e.bu=0) (hX:ln (over xs es) j=l8) (ha:askE (Qa4 e l8 hl8) i m=(r9,0)) (o00:Old W 0) (hto:∀d∈r9.2,0≤d.to∧d.to<c.co∧mg d.m=true) (M:Nat) (hM:∀y∈ports L,y.dn.length≤M) (hMn:M+r9.2.length≤1000) (hhe:e.he=false):Calls Tryz.prog 56 #[.pointer (some ⟨z.sy,0,none⟩),.int .i64 i] w fun r w'=>r=.returned (.int .i64 0)∧∃z' L',z'.sy=z.sy∧RTo W w c z L z' L' (en.set j r9.1) es xs w'∧ports L'=XY ((ports L).set i {x with up:=rest}) r9.2:=by
 have rS:=h.sys
 have rQ:=h.ports
 have hi:i<c.co:=by rw [←h.cores];exact (Vg hy).1
 have g0:(0:Int)≤(i:Int):=by omega
 have g1:(i:Int)<(c.co:Int):=by omega
 have HKC:=Vh (show inB (i:Int) c.co=true by unfold inB;simp;omega)
 have HH:=Vh h
 have HY:=Vh hy
 have oS:=old rS
 have oQ:=old rQ
 have rE:=h.ents
 have HS0:=Vh rS
 have HQ0:=Vh rQ
 have HE0:=Vh rE
 have hj:j<c.li:=by rw [←h.lines];exact (Vg he).1
 have g2:(0:Int)≤(j:Int):=by omega
 have g3:(j:Int)<(c.li:Int):=by omega
 have oE:=old rE
 have hk:=h.ok _ (List.mem_of_getElem? hy)
 obtain ⟨s0,up0,an0,dn0⟩:=x
 dsimp only at hu hq
 subst hu
 have hv1:Vof 12 38 Ms.enc w z.po p.ub p.uA p.uc (m::rest):=hk.2.1
 obtain ⟨hne,o',C',hAe,hb,hin,hp⟩:=hv1.first Ms.len
 have hp':Xq (some (.cells C' 38 (0,0))) o' 12=msc m:=hp
 have ob:=old hb
 have hcell:(sq Yz L [])[i*3]? =some (.slice (some ⟨p.ub,o',none⟩) (rest.length+1) p.uc):=by have:=Qc6 hy 0 (by decide);rw [←hAe];exact this
 have l6:(rest.length:Int)+1≤1000:=by simp at hq;omega
 have l7:(0:Int)<(rest.length:Int)+1:=by omega
 have tl:(((rest.length:Int)+1)==0)=false:=by simp;omega
 have p1:=fun t f=>Qg0 he z.er t f
 have p2:=fun t f=>JU he z.er t f
 have HE:=Vh he
 have HJL:=Vh hj
 have HM:=Vh hm
 have HAE:=Vh hAe
 have HV:=Vh hv1
 have HCELL:=Vh hcell
 obtain ⟨mk,ml,md,mke,mll,mh⟩:=m
 dsimp only at hm
 subst hm
 have tb:(e.bu !=0)=false:=by simpa using hb0
 have HA:=Vh ha
 have HX:=Vh hX
 have H0:=Vh (o00.chg h.chg)
 have HTO:=Vh hto
 have HMM:=Vh hM
 have HMN:=Vh hMn
 have HHE:=Vh hhe
 clear h hy hi hj hk hp hv1 he hne hAe hb0 hq hX ha o00 hto hM hMn
 go_enter Tryz.func56,Tryz.ntmps56
 try dsimp only [List.append]
 go_wp2_with fail
 refine (Xr i true _ HH.out HKC.out).mono ?_
 rintro e w' ⟨rfl,rfl⟩
 go_wp2_with fail
 have r5:(w.alloc (.cells (msc (⟨mk,(j:Int),md,mke,mll,mh⟩:Ms)) 38)).heap[w.heap.size]? =some (.cells (msc (⟨mk,(j:Int),md,mke,mll,mh⟩:Ms)) 38 (0,0)):=by simp
 have C1:=Vh ((Chg.refl [] w).alloc (.cells (msc (⟨mk,(j:Int),md,mke,mll,mh⟩:Ms)) 38))
 replace rS:=C1.out.keep rS Vn
 replace rQ:=C1.out.keep rQ Vn
 replace rE:=C1.out.keep rE Vn
 have NB5:=Vh (show w.heap.size∉z.all L from fun hm=>by have:=HH.out.old _ hm;omega)
 clear hb ob oS oQ oE
 generalize hb5:w.heap.size=b5 at r5 NB5 ⊢
 have HB5:=Vh hb5
 clear hb5
 generalize w.alloc (.cells (msc (⟨mk,(j:Int),md,mke,mll,mh⟩:Ms)) 38)=w1 at r5 C1 rS rQ rE ⊢
 have o5:=old r5
 have oS:=old rS
 have oQ:=old rQ
 have oE:=old rE
 have R5H:=Vh r5
 go_wp2_with fail
 go_region
 all_goals
  have C6:=Vh (show Chg [] w1 (putRow (w1.alloc (.cells (ec enZ) 117)).drew w1.heap.size 0 (ec e)) from by (repeat' (first |with_reducible exact Chg.refl _ _|with_reducible assumption|with_reducible refine Chg.drew ?_|with_reducible refine Chg.drewN ?_ _|with_reducible refine Chg.alloc ?_ _|with_reducible refine Chg.putRow ?_ _ _ _ (.inr ?_)|with_reducible refine Chg.setCell ?_ _ _ _ (.inr ?_)|(show _≤_;first |exact Nat.le_refl _|omega|(simp;done)))))
  have r6:(putRow (w1.alloc (.cells (ec enZ) 117)).drew w1.heap.size 0 (ec e)).heap[w1.heap.size]? =some (.cells (ec e) 117 (0,0)):=by
   exact Tz118
  replace rS:=C6.out.keep rS Vn
  replace rQ:=C6.out.keep rQ Vn
  replace rE:=C6.out.keep rE Vn
  replace r5:=C6.out.keep r5 Vn
  have NB6:=Vh (show w1.heap.size∉z.all L from fun hm=>by have:=HH.out.old _ hm;have:=C1.out.size;omega)
  have LB6:=Vh (show w.heap.size≤w1.heap.size from C1.out.size)
  clear o5 oS oQ oE
  have N65:=Vh (show w1.heap.size≠b5 from Nat.ne_of_gt (old R5H.out).lt)
  generalize w1.heap.size=b6 at r6 C6 N65 NB6 LB6 rS rQ rE r5 ⊢
  generalize putRow (w1.alloc (.cells (ec enZ) 117)).drew b6 0 (ec e)=w6 at r6 C6 rS rQ rE r5 ⊢
  have o5:=old r5
  have o6:=old r6
  have oS:=old rS
  have oQ:=old rQ
  have oE:=old rE
  have hX9:=HX.out
  have HRD:=Vh (fun w' (hc:Chg [] w1 w')=>by
   have h1:=((HH.out.stay (C1.out.trans hc)).1.mem.2)
   have h2:=rqread_ok z.q z.be z.g z.b c.li c.vo c.qu es xs j w' h1.1 h1.2.1 HJL.out
   rw [hX9] at h2
   exact h2)
  clear hX9
  go_wp2_with fail
  have hb6:Z7 (w6.heap[b6]?) 2 8=true:=by rw [r6];exact Zw e _
  have HR6:=Vh r6
  have n6s:b6≠z.sy:=fun e=>NB6.out Cz12
  have n65:b6≠b5:=N65.out
  go_region_held3 (fun w'=>w'.heap[z.sy]? =some (.cells (z.enc c).toArray 107 (0,0))∧w'.heap[b5]? =some (.cells (msc (⟨mk,(j:Int),md,mke,mll,mh⟩:Ms)) 38 (0,0))∧Z7 (w'.heap[b6]?) 2 8=true) (first |exact ⟨by rw [Qm];exact rS,by rw [Qm];exact r5,by rw [Qm];exact hb6⟩|exact ⟨(Chg.trans ((Chg.refl [] w6).drew) cwr).keep rS Vn,(Chg.trans ((Chg.refl [] w6).drew) cwr).keep r5 Vn,by rw [(Chg.trans ((Chg.refl [] w6).drew) cwr).keep HR6.out Vn];exact Zw e _⟩|exact here_keep ((Chg.trans ((Chg.refl [] w6).drew) cwr).keep rS Vn) ((Chg.trans ((Chg.refl [] w6).drew) cwr).keep r5 Vn) ((Chg.trans ((Chg.refl [] w6).drew) cwr).keep HR6.out Vn) n6s n65 hl8)
   (first
    |(go_at_call 113;refine (HRD.out _ (C6.out.trans ((Chg.refl [] _).drew))).mono ?_;rintro r wr ⟨rfl,cwr⟩))
  all_goals
   have cw0:Chg [] w6 wr:=Chg.trans ((Chg.refl [] w6).drew) cwr
   have r6w:=cw0.keep HR6.out Vn
   have hz6:Z7 (wr.heap[b6]?) 2 (vs l8).size=true:=by rw [r6w,Qw,hl8];exact Zw e _
   have C66:=Vh (((C1.out.trans C6.out).trans cw0).putRow b6 2 (vs l8) (.inr LB6.out))
   have r6b:(putRow wr b6 2 (vs l8)).heap[b6]? =some (.cells (ec (e.setL l8 hl8)) 117 (0,0)):=by
    rw [Qb _ _ _ _ _ hz6,if_pos rfl,r6w];exact ec_put e l8 hl8 _ _
   have M66:=Vh (HH.out.stay C66.out)
   replace rS:=C66.out.keep HS0.out Vn
   replace rQ:=C66.out.keep HQ0.out Vn
   replace rE:=C66.out.keep HE0.out Vn
   have r5c:=((cw0.mono (by simp)).putRow b6 2 (vs l8) (.inl (by simp)):Chg [b6] w6 _).keep r5 (by simpa using Ne.symm n65)
   replace r5:=r5c
   clear r5c r6 r6w hz6 cw0 cwr oS oQ oE o5 o6 hb6
   generalize putRow wr b6 2 (vs l8)=w6 at r6b C66 M66 rS rQ rE r5 ⊢
   have o5:=old r5
   have o6:=old r6b
   have oS:=old rS
   have oQ:=old rQ
   have oE:=old rE
   have hH:Qa4 e l8 hl8=(e.setHe true).setL l8 hl8:=by unfold Qa4;rw [if_neg (by rw [HHE.out];decide)]
   have hr:=rask_okay (Qa4 e l8 hl8) i (⟨mk,(j:Int),md,mke,mll,mh⟩:Ms) (w6.setCell ⟨b6,0,none⟩ (.bool true)) ((H0.out.chg C66.out).chg ((Chg.refl [b6] w6).setCell b6 0 (.bool true) (.inl (by simp)))) (by rw [HA.out])
   rw [HA.out,hH] at hr
   have HR:=Vh hr
   clear hr hH
   have C67:=Vh (C66.out.setCell b6 0 (.bool true) (.inr LB6.out))
   have q3:∀(t:TypeId) (f:Nat×Nat),Xq (some (.cells (ec ((e.setHe true).setL l8 hl8)) t f)) 0 15=ec ((e.setHe true).setL l8 hl8):=fun t f=>Qf _ t f _ (QL _)
   have NB66:=NB6.out
   go_wp2_with fail
   replace M66:=Vh (HH.out.stay C67.out)
   have cS:=((Chg.refl [b6] w6).setCell b6 0 (.bool true) (.inl (by simp)))
   replace rS:=C67.out.keep HS0.out Vn
   replace rQ:=C67.out.keep HQ0.out Vn
   replace rE:=C67.out.keep HE0.out Vn
   replace r5:=cS.keep r5 (by simpa using Ne.symm n65)
   clear cS C66 r6b oS oQ oE o5 o6
   have r6:True:=trivial
   have o6:True:=trivial
   have oS:=old rS
   have oQ:=old rQ
   have oE:=old rE
   have o5:=old r5
   have C66:=Vh C67.out
   clear C67 q3 NB66 n6s n65
   generalize w6.setCell ⟨b6,0,none⟩ (.bool true)=w6 at HR C66 M66 rS rQ rE r5 oS oQ oE o5 ⊢
   exact Tz31
end
end
section
theorem held_new {w1 w7:World} {X:Array Value} {T:TypeId} (cw:Chg [] (w1.alloc (.cells X T)).drew w7):w7.heap[w1.heap.size]? =some (.cells X T (0,0)):=cw.keep (by simp) Vn
section
variable {W:World} {c:Cg} {z:RLay} {L:List (Po×Pt)} {en:List En} {es:List Ent} {xs:List Int}
theorem rAnswer_no (k:Int) (w:World) (h:Rsd W w c z L en es xs) (hk:inB k c.co=false):Calls Tryz.prog 57 #[.pointer (some ⟨z.sy,0,none⟩),.int .i64 k] w fun r w'=>r=.returned (.int .i64 1)∧Chg [] w w':=by
 have HH:=Vh h
 have HK:=Vh hk
 clear h hk
 go_enter Tryz.func57,Tryz.ntmps57
 try dsimp only [List.append]
 go_wp2_with fail
 refine (Xr k false _ HH.out HK.out).mono ?_
 exact Tz33
set_option maxHeartbeats 4000000 in
theorem rAnswer_nil (i:Nat) (p:Po) (x:Pt) (w:World) (h:Rsd W w c z L en es xs) (hy:L[i]? =some (p,x)) (hu:x.an=[]):Calls Tryz.prog 57 #[.pointer (some ⟨z.sy,0,none⟩),.int .i64 i] w fun r w'=>r=.returned (.int .i64 14)∧Chg [] w w':=by
 have rS:=h.sys
 have rQ:=h.ports
 have hi:i<c.co:=by rw [←h.cores];exact (Vg hy).1
 have g0:(0:Int)≤(i:Int):=by omega
 have g1:(i:Int)<(c.co:Int):=by omega
 have HKC:=Vh (show inB (i:Int) c.co=true by unfold inB;simp;omega)
 have HH:=Vh h
 have HY:=Vh hy
 have oS:=old rS
 have oQ:=old rQ
 have hcell:(sq Yz L [])[i*3+1]? =some (.slice p.nA 0 p.nc):=by
  have h1:(sq Yz L [])[i*3+1]? =some (.slice p.nA x.an.length p.nc):=Qc6 hy 1 (by decide)
  rw [hu] at h1;exact h1
 clear h hy hu hi
 go_enter Tryz.func57,Tryz.ntmps57
 try dsimp only [List.append]
 go_wp2_with fail
 refine (Xr i true _ HH.out HKC.out).mono ?_
 exact Tz33
set_option maxHeartbeats 4000000 in
theorem rAnswer_go (i:Nat) (p:Po) (x:Pt) (w:World) (h:Rsd W w c z L en es xs) (hy:L[i]? =some (p,x)) (m:Ms) (rest:List Ms) (j:Nat) (e:En) (hu:x.an=m::rest) (hm:m.li=(j:Int)) (he:en[j]? =some e) (hq:x.an.length≤1000) (r9:En×List Sd) (ha:ansE e i m=(r9,0)) (hto:∀d∈r9.2,0≤d.to∧d.to<c.co∧mg d.m=true) (M:Nat) (hM:∀y∈ports L,y.dn.length≤M) (hMn:M+r9.2.length≤1000):Calls Tryz.prog 57 #[.pointer (some ⟨z.sy,0,none⟩),.int .i64 i] w fun r w'=>r=.returned (.int .i64 0)∧∃z' L',z'.sy=z.sy∧RTo W w c z L z' L' (en.set j r9.1) es xs w'∧ports L'=XY ((ports L).set i {x with an:=rest}) r9.2:=by
 have rS:=h.sys
 have rQ:=h.ports
 have hi:i<c.co:=by rw [←h.cores];exact (Vg hy).1
 have g0:(0:Int)≤(i:Int):=by omega
 have g1:(i:Int)<(c.co:Int):=by omega
 have HKC:=Vh (show inB (i:Int) c.co=true by unfold inB;simp;omega)
 have HH:=Vh h
 have HY:=Vh hy
 have oS:=old rS
 have oQ:=old rQ
 have rE:=h.ents
 have hj:j<c.li:=by rw [←h.lines];exact (Vg he).1
 have g2:(0:Int)≤(j:Int):=by omega
 have g3:(j:Int)<(c.li:Int):=by omega
 have oE:=old rE
 have hk:=h.ok _ (List.mem_of_getElem? hy)
 have HS0:=Vh rS
 have HQ0:=Vh rQ
 have HE0:=Vh rE
 obtain ⟨s0,up0,an0,dn0⟩:=x
 dsimp only at hu hq
 subst hu
 have hv1:Vof 12 38 Ms.enc w z.po p.nb p.nA p.nc (m::rest):=hk.2.2.1
 obtain ⟨hne,o',C',hAe,hb,hin,hp⟩:=hv1.first Ms.len
 have hp':Xq (some (.cells C' 38 (0,0))) o' 12=msc m:=hp
 have ob:=old hb
 have hcell:(sq Yz L [])[i*3+1]? =some (.slice (some ⟨p.nb,o',none⟩) (rest.length+1) p.nc):=by have:=Qc6 hy 1 (by decide);rw [←hAe];exact this
 have l6:(rest.length:Int)+1≤1000:=by simp at hq;omega
 have l7:(0:Int)<(rest.length:Int)+1:=by omega
 have tl:(((rest.length:Int)+1)==0)=false:=by simp;omega
 have p1:=fun t f=>Qg0 he z.er t f
 have p2:=fun t f=>JU he z.er t f
 have HE:=Vh he
 have HJL:=Vh hj
 have HM:=Vh hm
 have HAE:=Vh hAe
 have HV:=Vh hv1
 have HCELL:=Vh hcell
 obtain ⟨mk,ml,md,mke,mll,mh⟩:=m
 dsimp only at hm
 subst hm
 have HA:=Vh ha
 have HTO:=Vh hto
 have HMM:=Vh hM
 have HMN:=Vh hMn
 clear h hy hi hj hk hp hv1 he hne hAe hq ha hto hM hMn
 go_enter Tryz.func57,Tryz.ntmps57
 try dsimp only [List.append]
 go_wp2_with fail
 refine (Xr i true _ HH.out HKC.out).mono ?_
 rintro e w' ⟨rfl,rfl⟩
 go_wp2_with fail
 have r5:(w.alloc (.cells (msc (⟨mk,(j:Int),md,mke,mll,mh⟩:Ms)) 38)).heap[w.heap.size]? =some (.cells (msc (⟨mk,(j:Int),md,mke,mll,mh⟩:Ms)) 38 (0,0)):=by simp
 have C1:=Vh ((Chg.refl [] w).alloc (.cells (msc (⟨mk,(j:Int),md,mke,mll,mh⟩:Ms)) 38))
 replace rS:=C1.out.keep rS Vn
 replace rQ:=C1.out.keep rQ Vn
 replace rE:=C1.out.keep rE Vn
 have NB5:=Vh (show w.heap.size∉z.all L from fun hm=>by have:=HH.out.old _ hm;omega)
 clear hb ob oS oQ oE
 generalize hb5:w.heap.size=b5 at r5 NB5 ⊢
 have HB5:=Vh hb5
 clear hb5
 generalize w.alloc (.cells (msc (⟨mk,(j:Int),md,mke,mll,mh⟩:Ms)) 38)=w1 at r5 C1 rS rQ rE ⊢
 have o5:=old r5
 have oS:=old rS
 have oQ:=old rQ
 have oE:=old rE
 have R5H:=Vh r5
 go_wp2_with fail
 have hra:∀w',Calls Tryz.prog 116 #[.agg (ec e),.int .i64 (i:Int),.agg (msc (⟨mk,(j:Int),md,mke,mll,mh⟩:Ms))] w' (En3r w' (r9,0)):=fun w'=>by have:=ranswer_okay e i (⟨mk,(j:Int),md,mke,mll,mh⟩:Ms) w' (by rw [HA.out]);rw [HA.out] at this;exact this
 have HRA:=Vh hra
 clear hra
 have KP:∀w',Chg [] w1 w'→(fun w'=>w'.heap[z.sy]? =some (.cells (z.enc c).toArray 107 (0,0))∧w'.heap[z.en]? =some (.cells (sq En.enc en z.er) 117 (0,0))∧w'.heap[b5]? =some (.cells (msc (⟨mk,(j:Int),md,mke,mll,mh⟩:Ms)) 38 (0,0))) w':=fun w' hc=>⟨hc.keep rS Vn,hc.keep rE Vn,hc.keep r5 Vn⟩
 have KPH:=Vh KP
 clear KP
 go_region_held3 (fun w'=>w'.heap[z.sy]? =some (.cells (z.enc c).toArray 107 (0,0))∧w'.heap[z.en]? =some (.cells (sq En.enc en z.er) 117 (0,0))∧w'.heap[b5]? =some (.cells (msc (⟨mk,(j:Int),md,mke,mll,mh⟩:Ms)) 38 (0,0))) (first |exact ⟨by rw [Qm];exact rS,by rw [Qm];exact rE,by rw [Qm];exact r5⟩|exact KPH.out _ (((Chg.refl [] w1).alloc _).drew)|exact KPH.out _ (Chg.trans ((Chg.refl [] w1).drew) cw7)|exact KPH.out _ (Chg.trans (((Chg.refl [] w1).alloc _).drew) cw7)|exact KPH.out _ ((Chg.trans ((Chg.refl [] w1).drew) cw7).alloc _)|exact KPH.out _ ((Chg.trans (((Chg.refl [] w1).alloc _).drew) cw7).putRow _ _ _ (.inr (Nat.le_refl _)))) (first |(go_at_call 116;refine (HRA.out _).mono ?_;rintro r w7 ⟨A7,c7,rfl,s7,a7,cw7⟩;(first |(with_reducible have h7:=held_new cw7)|skip)))
 ·have C68:=Vh ((((C1.out).drew).trans cw7).alloc (.cells (ec r9.1) 117))
  have cw8:Chg [] w7 (w7.alloc (.cells (ec r9.1) 117)):=(Chg.refl [] w7).alloc _
  have r8:(w7.alloc (.cells (ec r9.1) 117)).heap[w7.heap.size]? =some (.cells (ec r9.1) 117 (0,0)):=by simp
  have S8:=Vh (s7.chg cw8 (by simp))
  have AA8:=Vh (show ∀a,A7=some a→w.heap.size≤a.block from fun a ha=>Nat.le_trans C1.out.size (a7 a ha))
  have NB8:=Vh (show w7.heap.size∉z.all L from fun hm=>by have:=HH.out.old _ hm;have:=(((C1.out).drew).trans cw7).size;omega)
  have C18:=(((Chg.refl [] w1).drew.trans cw7).alloc (.cells (ec r9.1) 117):Chg [] w1 _)
  have M8:=Vh (HH.out.stay C68.out)
  replace rS:=C18.keep rS Vn
  replace rQ:=C18.keep rQ Vn
  replace rE:=C18.keep rE Vn
  replace r5:=C18.keep r5 Vn
  clear C18 s7 a7 cw7 cw8 o5 oS oQ oE
  generalize w7.heap.size=b8 at r8 NB8 ⊢
  generalize w7.alloc (.cells (ec r9.1) 117)=w8 at r8 C68 S8 M8 rS rQ rE r5 ⊢
  have oS:=old rS
  exact Tz8
 ·have cw8:Chg [w1.heap.size] w7 (putRow w7 w1.heap.size 0 (ec r9.1)):=(Chg.refl [w1.heap.size] w7).putRow _ _ _ (.inl (by simp))
  have C68:=Vh ((((C1.out.alloc (.cells (ec enZ) 117)).drew).trans cw7).putRow w1.heap.size 0 (ec r9.1) (.inr C1.out.size))
  have r8:(putRow w7 w1.heap.size 0 (ec r9.1)).heap[w1.heap.size]? =some (.cells (ec r9.1) 117 (0,0)):=by
   rw [Qb _ _ _ _ _ (by rw [h7,Qd,QL,QL];rfl),if_pos rfl,h7]
   exact Qe _ _ _ _ (by rw [QL,QL])
  have hsz:(w1.alloc (.cells (ec enZ) 117)).drew.heap.size=w1.heap.size+1:=by simp
  have S8:=Vh (s7.chg cw8 (by intro a ha;have:=a7 a ha;rw [hsz] at this;simp;omega))
  have AA8:=Vh (show ∀a,A7=some a→w.heap.size≤a.block from fun a ha=>by have:=a7 a ha;rw [hsz] at this;have:=C1.out.size;omega)
  have NB8:=Vh (show w1.heap.size∉z.all L from fun hm=>by have:=HH.out.old _ hm;have:=C1.out.size;omega)
  clear hsz h7
  have C18:=((((Chg.refl [] w1).alloc (.cells (ec enZ) 117)).drew.trans cw7).putRow w1.heap.size 0 (ec r9.1) (.inr (Nat.le_refl _)):Chg [] w1 _)
  have M8:=Vh (HH.out.stay C68.out)
  replace rS:=C18.keep rS Vn
  replace rQ:=C18.keep rQ Vn
  replace rE:=C18.keep rE Vn
  replace r5:=C18.keep r5 Vn
  clear C18 s7 a7 cw7 cw8 o5 oS oQ oE
  generalize w1.heap.size=b8 at r8 NB8 C68 S8 M8 rS rQ rE r5 ⊢
  generalize putRow w7 b8 0 (ec r9.1)=w8 at r8 C68 S8 M8 rS rQ rE r5 ⊢
  have oS:=old rS
  exact Tz8
end
end
end Go.Proofs.YtadeoflkppiflaaGreatDoor
