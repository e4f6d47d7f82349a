/- Texts of the walk, one behind the other: Dpv Dpw Mgd Mge. No condition. -/
import Derived.Test.YtadeoflkppiflaaGreatDoorSaa
import Derived.Test.YtadeoflkppiflaaGreatDoorSag
import Derived.Test.YtadeoflkppiflaaGreatDoorSah
import Derived.Test.YtadeoflkppiflaaGreatDoorSak
import Derived.BigQuiet
import Derived.Deep.Cut
import Derived.Deep.CutBlock
import Derived.Deep.CutRange
import Derived.Deep.DeepCutAuto
import Derived.Deep.QuietTactic
import Derived.Deep.RegionHeld3
import Derived.Deep.RegionWith
namespace Go.Proofs.YtadeoflkppiflaaGreatDoor
open Go.RowKit
set_option linter.unusedVariables false
set_option maxHeartbeats 1000000
attribute [local go_sem ↓] QA QQ QH Q8 Zc QS QC Za QN ZB Zk Qm Ql heap_alloc Qo heap_setCell Qb ZF ZM ZK ZN ZL
attribute [local go_sem] Qc Qa Qd Qj Qf Qe Qh Qi Qw ZE QZ Zy QO QG Q6 Q0 Q5 Zi Zz Q9 QM QB QI Zj Q7 Qz QP Qt Qk Qs Qr Qq Qp Qg Ze lit8 Qv ZA Zl Zm
attribute [local simp ↓] Qm Ql heap_alloc Qo heap_setCell Qb
attribute [local simp] Qc Qa Qd Qj Qf Qe Qh Qi Qw QB Qk Qs Qr Qq Qp Qg Qv
attribute [local go_sem ↓] XP XQ XO XN XS XR XM XZ
attribute [local go_sem] Xi XV Xh ZR ZT QL Xp ZZ X3 Zw QW QV QU QY QX QT QK QJ Zg Zf Xm ZW
attribute [local simp] QL Zf QW QV QU QY QX QT QK QJ Zg
section
attribute [local go_sem ↓] Xo ZV Xn ZU
attribute [local go_sem] Xk Xj
attribute [local go_sem] ZY
attribute [local go_sem] Xl
attribute [local go_sem ↓] Z0
attribute [local simp] Z0
attribute [local go_sem] Qx Qy
attribute [local simp] Qx Qy QI Zw
def SdsV (w:World) (xs:List Sd):Ending→World→Prop:=fun e w'=>∃A c be,e=.returned (.slice A xs.length c)∧Vec 13 179 Sd.enc w' 0 be A c xs∧(be=0∨w.heap.size≤be)∧Chg [] w w'
theorem dtellv_any (s:Mk) (m:Ms) (w:World) (h0:Old w 0):Calls Tryz.prog 163 #[.int .u8 (mi s),.agg (msc m)] w (SdsV w (Xf s m)):=by
 have H0:=Vh h0
 have h8:=Qg5 s
 clear h0
 go_enter Tryz.func163,Tryz.ntmps163
 try dsimp only [List.append]
 go_wp2_with fail
 refine gen_calls1 (w:=w) (b1:=w.heap.size) (x1:=.cells (msc m) 38 (0,0)) Cz1 (by simp) fun w1 C1 rM=>?_
 have oM:=old rM
 refine (gcores_any s w1 (H0.out.chg C1)).mono ?_
 rintro e w2 ⟨A,cp0,rfl,hs,hA,c2⟩
 have rM2:=c2.keep rM (by simp)
 have HA:=Vh hs
 have C2:=Vh (C1.trans c2)
 have HL:∃n,n=(Jb s).length:=⟨_,rfl⟩
 obtain ⟨N,hN⟩:=HL
 rw [←hN] at HA h8 ⊢
 have HN:=Vh hN
 clear hs hA c2 C1 rM oM hN
 go_wp2_with fail
 go_loopw [5,11] (fun x i wr=>∃(k be cp:Nat) (B:Option Addr) (xs:List Sd),k≤N∧i=.int .i64 k∧xs=(Xf s m).take k∧x=.slice B xs.length cp∧Chg [] w2 wr∧Vec 13 179 Sd.enc wr 0 be B cp xs∧(be=0∨w2.heap.size≤be)) (fun _ i _=>N-(intOf i).toNat)
 case atStart=>exact ⟨0,0,0,none,[],by omega,rfl,rfl,rfl,Chg.refl _ _,Vec.nil _ _ _ _ _,.inl rfl⟩
 case round=>
  obtain ⟨k,be,cp,B,xs,hk,rfl,hxs,rfl,hc,hvb,hbe⟩:=hrel
  by_cases hlt:k<N
  ·have g1:(k:Int)<(N:Int):=by omega
   exact Tz21
  ·obtain rfl:k=N:=by omega
   have hall:xs=Xf s m:=by rw [hxs];exact List.take_of_length_le (by rw [HN.out];simp [Xf])
   have HV:=Vh hvb
   have HC:=Vh (C2.out.trans hc)
   have HB:=Vh (show be=0∨w.heap.size≤be by have:=C2.out.size;omega)
   clear hvb hc hbe hxs
   go_wp2_with fail
   go_ret
   rw [←hall]
   exact ⟨_,_,_,rfl,HV.out,HB.out,HC.out⟩
end
section
set_option maxRecDepth 100000
attribute [local go_sem ↓] Xo ZV Xn ZU Z0
attribute [local go_sem] Xk Xj ZY Xl Qx Qy Z6
attribute [local simp] Z0 Qx Qy QI Zw
theorem dtellv4_any (s:Mk) (kd li:Int) (di ke:Bool) (w:World) (h0:Old w 0):Calls Tryz.prog 163 #[.int .u8 (mi s),.agg #[.int .i64 kd,.int .i64 li,.bool di,.bool ke,.int .u64 0,.int .u64 0,.int .u64 0,.int .u64 0,.int .u64 0,.int .u64 0,.int .u64 0,.int .u64 0]] w (SdsV w (Xf s (ms4 kd li di ke)))
 :=dtellv_any s (ms4 kd li di ke) w h0
def En3V (w:World) (r:(En×List Sd)×Int):Ending→World→Prop:=fun e w'=>∃A c be,e=.returned (.tuple #[.agg (ec r.1.1),.slice A r.1.2.length c,.int .i64 r.2])∧Vec 13 179 Sd.enc w' 0 be A c r.1.2∧(be=0∨w.heap.size≤be)∧Chg [] w w'
theorem En3V.err (w w':World) (n:Int) (h:Chg [] w w'):En3V w ((enZ,[]),n) (.returned (.tuple #[.agg (ec enZ),.slice none 0 0,.int .i64 n])) w':=⟨none,0,0,rfl,.inl ⟨rfl,rfl,rfl,rfl⟩,.inl rfl,h⟩
theorem Qfg (x:En) (w:World) (h0:Old w 0):Calls Tryz.prog 105 #[.agg (ec x)] w (En3V w (Qbv x)):=by
 cases hr:Yb x
 ·rw [show Qbv x=((enZ,[]),16) from by simp [Qbv,hr]]
  go_enter Tryz.func105,Tryz.ntmps105
  try dsimp only [List.append]
  go_wp2_with fail
  refine Qbk (w:=w) (b1:=w.heap.size) (x1:=.cells (ec (x)) 56 (0,0)) (b2:=w.heap.size+1) (x2:=.cells (ec (enZ)) 56 (0,0)) Cz0 (by simp [*]) (by simp [*]) fun w1 C1 rE rR=>?_
  have oE:=old rE
  have oR:=old rR
  refine (dready_at x _ hr w1).mono ?_
  rintro e w3 ⟨rfl,c3⟩
  have rE3:=c3.keep rE (by simp)
  have rR3:=c3.keep rR (by simp)
  have C3:=C1.trans c3
  clear rE rR oE oR C1 c3
  have oE3:=old rE3
  have oR3:=old rR3
  go_wp2_with fail
  refine bodyPost_ret (v:=.tuple #[.agg (ec enZ),.slice none 0 0,.int .i64 16]) ?_ (by rfl) ?_
  ·exact Xw (by rfl) _ _ (w.heap.size+1) enZ (0,0) (by rfl) (by simp [rR3];try rfl) _ _ (by rfl) (by rfl)
  exact En3V.err _ _ _ Cz0
 ·rw [show Qbv x=(((XG x).setDi false,Xf (bitM x.by_) (ms4 14 0 false false)),0) from by simp [Qbv,hr]]
  go_enter Tryz.func105,Tryz.ntmps105
  try dsimp only [List.append]
  go_wp2_with fail
  refine Qbk (w:=w) (b1:=w.heap.size) (x1:=.cells (ec (x)) 56 (0,0)) (b2:=w.heap.size+1) (x2:=.cells (ec (enZ)) 56 (0,0)) Cz0 (by simp [*]) (by simp [*]) fun w1 C1 rE rR=>?_
  have oE:=old rE
  have oR:=old rR
  refine (dready_at x _ hr w1).mono ?_
  rintro e w3 ⟨rfl,c3⟩
  have rE3:=c3.keep rE (by simp)
  have rR3:=c3.keep rR (by simp)
  have C3:=C1.trans c3
  clear rE rR oE oR C1 c3
  have oE3:=old rE3
  have oR3:=old rR3
  go_wp2_with fail
  refine (Qg4 x w3).mono ?_
  rintro e w4 ⟨rfl,c4⟩
  have rE4:=c4.keep rE3 (by simp)
  have rR4:=c4.keep rR3 (by simp)
  have C4:=C3.trans c4
  clear rE3 rR3 oE3 oR3 C3 c4
  have oE4:=old rE4
  have oR4:=old rR4
  go_wp2_with fail
  refine Jn (w:=w) (b1:=w.heap.size) (x1:=.cells (ec ((XG x).setDi false)) 56 (0,0)) (b2:=w.heap.size+1) (x2:=.cells (ec (enZ)) 56 (0,0)) Cz0 Cz16 Cz16 fun w1 C1 rE rR=>?_
  have oE:=old rE
  have oR:=old rR
  have o0:=h0.chg C1
  go_region_held3 (fun w'=>w'.heap[w.heap.size]? =some (.cells (ec ((XG x).setDi false)) 56 (0,0))) (first |exact rE|exact c2.keep rE (by simp)|exact c2.keep (by simp [*]) (by simp)|simp [*])
   (first
    |(go_at_call 164;refine (Ye _ _).mono ?_;rintro e w' ⟨rfl,rfl⟩)
    |(go_at_call 163;refine (dtellv4_any _ _ _ _ _ _ Cz13).mono ?_;rintro e w' ⟨A2,n2,be,rfl,hs2,hA2,c2⟩;(have hA3:be=0∨w1.heap.size≤be:=(by simpa using hA2));(first |(have rR2:=c2.keep rR (by simp))|(have rR2:=c2.keep (x:=.cells (ec ((XG x).setDi false)) 56 (0,0)) (k:=w.heap.size+1) (by simp [rR]) (by simp)))))
  all_goals
   go_wp2_with fail
   refine bodyPost_ret (v:=.tuple #[.agg (ec ((XG x).setDi false)),.slice A2 (Xf (bitM x.by_) (ms4 14 0 false false)).length n2,.int .i64 0]) ?_ (by rfl) ?_
   ·exact Xw (by rfl) _ _ (w.heap.size+1) _ (0,0) (by rfl) Cz15 _ _ (by rfl) (by rfl)
   refine ⟨A2,n2,be,rfl,?_,hA3.imp id (Nat.le_trans C1.size),by (repeat' (first |with_reducible exact Chg.refl _ _|with_reducible assumption|with_reducible refine Chg.drew ?_|with_reducible refine Chg.drewN ?_ _|with_reducible refine Chg.alloc ?_ _|with_reducible refine Chg.putRow ?_ _ _ _ (.inr ?_)|with_reducible refine Chg.setCell ?_ _ _ _ (.inr ?_)|with_reducible refine Chg.trans ?_ c2|with_reducible refine Chg.trans (b:=World.drew _) ?_ c2|(show _≤_;first |exact Nat.le_refl _|omega|(simp;done))))⟩
   first
    |exact hs2
    |exact hs2.keep ((Chg.refl [w.heap.size+1] _).putRow _ _ _ (.inl (by simp))) (by have:=oR.lt;simp;omega)
end
end Go.Proofs.YtadeoflkppiflaaGreatDoor
namespace Go.Proofs.YtadeoflkppiflaaGreatDoor
open Go.RowKit
set_option linter.unusedVariables false
set_option maxHeartbeats 1000000
set_option maxRecDepth 100000
attribute [local go_sem ↓] QA QQ QH Q8 QS QC Za QN Zs Zh Qm Ql heap_alloc Qo heap_setCell Qb ZF Z4 Z5 Z3 Zc ZB Zk ZI Zv ZM ZK ZN ZL
attribute [local go_sem] Qc Qa Qd Qj Qf Qe Qh Qi Qw ZE QZ Zq QO QG Q6 Q0 Q5 Zi Q9 QM QB QI Zj Q7 Qz QP Qt Qk Qs Qr Qq Qp Qg Zb Ze lit8 QF ZG Zr Zt ZC Zd Zy ZH Zz Qv ZA Zl Zm QE QD QR ZO
attribute [local simp ↓] Qm Ql heap_alloc Qo heap_setCell Qb
attribute [local simp] Qc Qa Qd Qj Qf Qe Qh Qi Qw QB Qk Qs Qr Qq Qp Qg QF Qv QE QD QR QI
attribute [local go_sem ↓] XP XQ XO XN XS XR XM XZ
attribute [local go_sem] Xi XV Xh ZR ZT QL Xp ZZ X3 Zw QW QV QU QY QX QT QK QJ Zg Zf Xm ZW
attribute [local simp] QL Zf QW QV QU QY QX QT QK QJ Zg
attribute [local go_sem ↓] Xo ZV Xn ZU Z0
attribute [local go_sem] Xk Xj ZY Xl Qx Qy Z6
attribute [local simp] Z0 Qx Qy QI Zw
section
attribute [local go_sem ↓] Xg Yh Yi Y8
attribute [local simp] Xg
section
variable {W:World} {c:Cg} {z:Lay} {L:List (Po×Pt)} {en:List En} {es:List Ent} {xs:List Int}
theorem zpush_off (k:Int) (w:World) (h:Msd W w c z L en es xs) (hk:inB k c.li=false):Calls Tryz.prog 50 #[.pointer (some ⟨z.sy,0,none⟩),.int .i64 k] w fun r w'=>r=.returned (.int .i64 1)∧w=w':=by
 have HH:=Vh h
 have HK:=Vh hk
 clear h hk
 go_enter Tryz.func50,Tryz.ntmps50
 exact Tz86
theorem zpush_wait (i:Nat) (e:En) (w:World) (h:Msd W w c z L en es xs) (hT:Tab W) (he:en[i]? =some e) (hd:Yb e=false):Calls Tryz.prog 50 #[.pointer (some ⟨z.sy,0,none⟩),.int .i64 i] w fun r w'=>r=.returned (.int .i64 16)∧Chg [] w w':=by
 have hi:i<c.li:=by rw [←h.lines];exact (Vg he).1
 have rS:=h.sys
 have rE:=h.ents
 have oS:=old rS
 have oE:=old rE
 have p0:=fun t f=>erow he t f
 have p1:=fun t f=>Qda he t f
 have g0:(0:Int)≤(i:Int):=by omega
 have g1:(i:Int)<(c.li:Int):=by omega
 have HH:=Vh h
 have HB:=Vh (show inB (i:Int) c.li=true by unfold inB;simp;omega)
 have HE:=Vh he
 have HT:=Vh (hT.keep h.chg (by simp)).old0
 have HP:=Vh (show Qbv e=((enZ,[]),16) by unfold Qbv;rw [if_neg (by simp [hd])])
 have HK:=Vh (fun w1 (o:Old w1 0)=>HP.out▸Qfg e w1 o)
 clear h he hi hd hT
 go_enter Tryz.func50,Tryz.ntmps50
 try dsimp only [List.append]
 go_wp2_with (first |(go_at_call 76;refine (Xb (i:Int) true HB.out _ HH.out).mono ?_;rintro e w' ⟨rfl,rfl⟩))
 refine (HK.out _ HT.out).mono ?_
 rintro r w2 ⟨A,n,be1,rfl,hs,hA,hc⟩
 have HC:=Vh hc
 clear hs hA hc rS rE oS oE
 go_wp2_with fail
 go_ret
 exact ⟨rfl,HC.out.alloc _⟩
theorem MTo.aside {w w1 w2:World} {z':Lay} {L':List (Po×Pt)} {b:Nat} (h:MTo W w c z L z' L' en es xs w1) (hb:w.heap.size≤b) (hW:W.heap.size≤w.heap.size) (hn:b∉z'.all L') (hc:Chg [b] w1 w2):MTo W w c z L z' L' en es xs w2:=
 ⟨h.1.keepL hc (by simpa using hn) (by simp;omega),h.2.1.trans' hc (by simp;omega),h.2.2⟩
theorem Qe0 (l ys:List Value) (o:Nat) (v:Value) (h:(l.drop o).take 13=ys):((l.set (o+2) v).drop o).take 13=ys.set 2 v:=by
 subst h
 rw [List.drop_set,if_neg (by omega),show o+2-o=2 by omega,List.take_set]
theorem sd_line (tk k l:Int) (a b:Bool) (v:Int):(Sd.enc ⟨tk,ms4 k l a b⟩).set 2 (.int .i64 v)=Sd.enc ⟨tk,ms4 k v a b⟩:=by rfl
theorem zpush_go (i:Nat) (e:En) (w:World) (h:Msd W w c z L en es xs) (hT:Tab W) (he:en[i]? =some e) (hd:Yb e=true) (hc:isC e.by_=true) (hco:e.by_<c.co) (hg:mg (ms4 14 i false false)=true) (v:Int) (hv:YX c es i e=v) (es':List Ent) (hs:Ya c es i e=es') (M:Nat) (hM:∀x∈ports L,x.dn.length≤M) (hMn:M+1≤1000):
 Calls Tryz.prog 50 #[.pointer (some ⟨z.sy,0,none⟩),.int .i64 i] w fun r w'=>(v≠0∧r=.returned (.int .i64 v)∧∃be',MTo W w c z L {z with be:=be'} L en es' xs w')∨
  (v=0∧r=.returned (.int .i64 0)∧∃be' ks' L',MTo W w c z L {z with be:=be',ks:=ks'} L' (en.set i ((XG e).setDi false)) es' xs w'∧ports L'=XY (ports L) [⟨e.by_,ms4 14 i false false⟩]):=by
 have hi:i<c.li:=by rw [←h.lines];exact (Vg he).1
 have rS:=h.sys
 have rE:=h.ents
 have oS:=old rS
 have oE:=old rE
 have p0:=fun t f=>erow he t f
 have p1:=fun t f=>Qda he t f
 have g0:(0:Int)≤(i:Int):=by omega
 have g1:(i:Int)<(c.li:Int):=by omega
 have HH:=Vh h
 have HB:=Vh (show inB (i:Int) c.li=true by unfold inB;simp;omega)
 have HE:=Vh he
 have HT0:=Vh (hT.keep h.chg (by simp)).old0
 have HT:=Vh hT
 have HP:=Vh (show Qbv e=(((XG e).setDi false,[⟨e.by_,ms4 14 0 false false⟩]),0) by unfold Qbv;rw [if_pos hd,YB hc])
 have HK:=Vh (fun w1 (o:Old w1 0)=>HP.out▸Qfg e w1 o)
 have HS:=Vh (fun w1 (c1:Chg [] w w1)=>hs▸hv▸zsave_ok i e w1 (h.keep c1) he)
 have HMM:=Vh hM
 have HMN:=Vh hMn
 have HG:=Vh hg
 have HCO:=Vh hco
 have HC:=Vh (show 0≤e.by_ by unfold isC at hc;simp at hc;omega)
 have HEX:=Vh (show ∃e',(XG e).setDi false=e' from ⟨_,rfl⟩)
 clear h he hi hd hv hs hT hM hMn hg hco hc
 obtain ⟨e',he'⟩:=HEX.out
 rw [he'] at HK ⊢
 have HE':=Vh he'
 clear he' HEX HP
 go_enter Tryz.func50,Tryz.ntmps50
 try dsimp only [List.append]
 go_wp2_with (first |(go_at_call 76;refine (Xb (i:Int) true HB.out _ HH.out).mono ?_;rintro e w' ⟨rfl,rfl⟩))
 refine (HK.out _ HT0.out).mono ?_
 rintro r w2 ⟨A,n,b,rfl,hs,hA,hc⟩
 rcases hs with ⟨_,_,_,hs⟩|⟨hb0,rfl,_,r0,rb,_⟩
 ·cases hs
 have hbw:w.heap.size≤b:=hA.resolve_left hb0
 have hx:((sq Sd.enc [(⟨e.by_,ms4 14 0 false false⟩:Sd)] r0).toList.drop 0).take 13=Sd.enc ⟨e.by_,ms4 14 0 false false⟩:=by
  simp [sq,cat,Sd.len]
 generalize sq Sd.enc [(⟨e.by_,ms4 14 0 false false⟩:Sd)] r0=cs at rb hx
 have HX:=Vh hx
 have C2:=Vh hc
 have HBW:=Vh hbw
 have ob:=old rb
 clear hx hc hA hbw hb0 rS rE oS oE
 go_wp2_with fail
 have r3:(w2.alloc (.cells (ec e') 56)).heap[w2.heap.size]? =some (.cells (ec e') 56 (0,0)):=Yr _ _
 have C3:=Vh (C2.out.alloc (.cells (ec e') 56))
 have HW3:=Vh (show w.heap.size≤w2.heap.size from C2.out.size)
 replace rb:=((Chg.refl [] w2).alloc (.cells (ec e') 56)).keep rb Vn
 have nb3:b≠w2.heap.size:=by have:=ob.lt;omega
 generalize w2.heap.size=b3 at r3 HW3 nb3 ⊢
 generalize w2.alloc (.cells (ec e') 56)=w3 at r3 C3 rb ⊢
 clear ob
 have HNB:=Vh (show b∉z.all L from fun hm=>by have h1:=HH.out.old b hm;have h2:=HBW.out;omega)
 have HN3:=Vh (show b3∉z.all L from fun hm=>by have h1:=HH.out.old b3 hm;have h2:=HW3.out;omega)
 have HL3:=Vh (ZS rb)
 refine (HS.out _ C3.out).mono ?_
 rintro r w4 ⟨rfl,be',M4⟩
 have HM4:=Vh M4
 replace rb:=M4.2.1.keep rb HNB.out
 replace r3:=M4.2.1.keep r3 HN3.out
 clear M4 C2
 have ob:=old rb
 have o3:=old r3
 by_cases hv:v=0
 ·obtain rfl:=hv
  have HZB:=Vh (show b∉({z with be:=be'}:Lay).all L from fun hm=>by rcases HM4.out.2.2 b hm with h1|h1;exact HNB.out h1;have:=HL3.out;omega)
  go_wp2_with fail
  go_loopw [37] (fun ix wr=>∃(j:Nat) (cs':Array Value),j≤1∧ix=.int .i64 j∧Chg [b] w4 wr∧wr.heap[b]? =some (.cells cs' 179 (0,0))∧(j=0→cs'=cs)∧(j=1→cs'=cs.setIfInBounds 2 (.int .i64 i))) (fun ix _=>1-(intOf ix).toNat)
  case atStart=>exact ⟨0,cs,by omega,rfl,Chg.refl _ _,rb,fun _=>rfl,by omega⟩
  case round=>
   obtain ⟨j,cs',hj,rfl,hc,hb,h0,h1⟩:=hrel
   have r3':=hc.keep r3 (by simp;omega)
   have HC0:=Vh hc
   have H1:=Vh h1
   clear hc h1 rb r3 ob o3
   by_cases hlt:j<1
   ·obtain rfl:j=0:=by omega
    exact Tz38
   ·obtain rfl:j=1:=by omega
    obtain rfl:=H1.out rfl
    have hsl:Sl wr 13 (some ⟨b,0,none⟩) 1 (cat Sd.enc [⟨e.by_,ms4 14 i false false⟩]):=⟨by simp [cat,Sd.len],.inr ⟨b,0,_,179,(0,0),rfl,hb,by
     rw [Array.toList_setIfInBounds,Qe0 _ _ 0 _ HX.out,sd_line];simp [cat]⟩⟩
    have HM5:=Vh (((HH.out.stay C3.out).trans HM4.out).aside HBW.out HH.out.chg.size HZB.out HC0.out)
    have hbec:=Qcp i e e' (some ⟨b,0,none⟩) 1 n [⟨e.by_,ms4 14 i false false⟩] wr HM5.out.1 HT.out HE.out rfl hsl (fun _ a ha=>by cases ha;exact HZB.out) (by
     exact Tz134) M HMM.out HMN.out
    have HBE:=Vh hbec
    clear hsl hbec h0 hb hlt hj
    have o3:=old r3'
    go_wp2_with fail
    refine HBE.out.mono ?_
    rintro r w6 ⟨rfl,L',M6,hp⟩
    have HM6:=Vh (HM5.out.trans M6)
    have HPP:=Vh hp
    clear M6 hp r3' o3
    go_wp2_with fail
    refine (HM6.out.1.count 13 (by decide) (by decide)).mono ?_
    rintro r w7 ⟨⟨v,rfl⟩,ks',M7⟩
    have HM7:=Vh (HM6.out.trans M7)
    clear M7
    go_wp2_with fail
    go_ret
    have hfin:∃be' ks' L',MTo W w c z L {z with be:=be',ks:=ks'} L' (en.set i e') es' xs w7∧ports L'=XY (ports L) [⟨e.by_,ms4 14 i false false⟩]:=⟨be',ks',L',HM7.out,HPP.out⟩
    first
     |exact .inr ⟨rfl,rfl,hfin⟩
     |exact ⟨rfl,hfin⟩
 ·have tv:(v !=0)=true:=by simpa using hv
  go_wp2_with fail
  go_ret
  first
   |exact .inl ⟨hv,rfl,be',(HH.out.stay C3.out).trans HM4.out⟩
   |exact ⟨rfl,be',(HH.out.stay C3.out).trans HM4.out⟩
end
end
section
section
variable {W w w':World} {c:Cg} {sy:Nat} {F:List Nat} {ps:List Pt} {en:List En} {es:List Ent} {xs:List Int} (hm:Mem W w c sy F ps en es xs)
include hm
theorem mpush_off (k:Int) (hk:inB k c.li=false):Calls Tryz.prog 50 #[.pointer (some ⟨sy,0,none⟩),.int .i64 k] w fun e w'=>e=.returned (.int .i64 1)∧w=w':=by
 obtain ⟨z,L,rfl,rfl,rfl,h⟩:=hm
 exact zpush_off k w h hk
theorem mpush_wait (i:Nat) (e:En) (hT:Tab W) (he:en[i]? =some e) (hd:Yb e=false):Calls Tryz.prog 50 #[.pointer (some ⟨sy,0,none⟩),.int .i64 i] w fun r w'=>r=.returned (.int .i64 16)∧Chg [] w w':=by
 obtain ⟨z,L,rfl,rfl,rfl,h⟩:=hm
 exact zpush_wait i e w h hT he hd
theorem mpush_go (i:Nat) (e:En) (hT:Tab W) (he:en[i]? =some e) (hd:Yb e=true) (hc:isC e.by_=true) (hco:e.by_<c.co) (hg:mg (ms4 14 i false false)=true) (v:Int) (hv:YX c es i e=v) (es':List Ent) (hs:Ya c es i e=es') (M:Nat) (hM:∀x∈ps,x.dn.length≤M) (hMn:M+1≤1000):
 Calls Tryz.prog 50 #[.pointer (some ⟨sy,0,none⟩),.int .i64 i] w fun r w'=>(v≠0∧r=.returned (.int .i64 v)∧MemTo W w c sy F ps en es' xs w')∨(v=0∧r=.returned (.int .i64 0)∧MemTo W w c sy F (XY ps [⟨e.by_,ms4 14 i false false⟩]) (en.set i ((XG e).setDi false)) es' xs w'):=by
 obtain ⟨z,L,rfl,rfl,rfl,h⟩:=hm
 refine (zpush_go i e w h hT he hd hc hco hg v hv es' hs M hM hMn).mono fun r w' hr2=>?_
 exact Tz90
end
end
end Go.Proofs.YtadeoflkppiflaaGreatDoor
