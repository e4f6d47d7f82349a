/- Texts of the walk, one behind the other: Ryi Ryj Ryk Ryl Ryn. No condition. -/
import Derived.Test.YtadeoflkppiflaaGreatDoorSaa
import Derived.Test.YtadeoflkppiflaaGreatDoorSac
import Derived.Test.YtadeoflkppiflaaGreatDoorSaj
import Derived.Test.YtadeoflkppiflaaGreatDoorSal
import Derived.Test.YtadeoflkppiflaaGreatDoorSan
import Derived.Test.YtadeoflkppiflaaGreatDoorSao
import Derived.Test.YtadeoflkppiflaaGreatDoorSaq
import Derived.Test.YtadeoflkppiflaaGreatDoorSar
import Derived.Test.YtadeoflkppiflaaGreatDoorSau
import Derived.BigQuiet
import Derived.Deep.Cut
import Derived.Deep.CutBlock
import Derived.Deep.CutRange
import Derived.Deep.DeepCutAuto
import Derived.Deep.QuietTactic
import Derived.Deep.RegionHeld3
import Derived.Deep.RegionWith
namespace Go.Proofs.YtadeoflkppiflaaGreatDoor
open Go.RowKit
set_option linter.unusedVariables false
set_option maxHeartbeats 1000000
set_option maxRecDepth 100000
attribute [local go_sem ↓] QA QQ QH Q8 QS QC Za QN Zs Zh Qm Ql heap_alloc Qo heap_setCell Qb ZF Z4 Z5 Z3 Zc ZB Zk ZI Zv ZM ZK ZN ZL
attribute [local go_sem] Qc Qa Qd Qj Qf Qe Qh Qi Qw ZE QZ Zq QO QG Q6 Q0 Q5 Zi Q9 QM QB QI Zj Q7 Qz QP Qt Qk Qs Qr Qq Qp Qg Zb Ze lit8 QF ZG Zr Zt ZC Zd Zy ZH Zz Qv ZA Zl Zm QE QD QR ZO
attribute [local simp ↓] Qm Ql heap_alloc Qo heap_setCell Qb
attribute [local simp] Qc Qa Qd Qj Qf Qe Qh Qi Qw QB Qk Qs Qr Qq Qp Qg QF Qv QE QD QR QI
attribute [local go_sem ↓] XP XQ XO XN XS XR XM XZ
attribute [local go_sem] Xi XV Xh ZR ZT QL Xp ZZ X3 Zw QW QV QU QY QX QT QK QJ Zg Zf Xm ZW
attribute [local simp] QL Zf QW QV QU QY QX QT QK QJ Zg
attribute [local go_sem ↓] Xo ZV Xn ZU Z0
attribute [local go_sem] Xk Xj ZY Xl Qx Qy Z6
attribute [local simp] Z0 Qx Qy QI Zw
section
attribute [local go_sem ↓] Xg Qac Jh Jj Jf Ji Jg
attribute [local simp] Xg
attribute [local go_sem ↓] Qag Jo Qa3 JH
attribute [local go_sem] J7 Qa2
theorem put_keep {w6:World} {s b i:Nat} {oS:Obj} {en:List En} {r:List Value} {T:TypeId} {e x:En} (rS:w6.heap[s]? =some oS) (rE:w6.heap[b]? =some (.cells (sq En.enc en r) T (0,0))) (he:en[i]? =some e) (ne:s≠b):(putRow w6 b (i*15) (ec x)).heap[s]? =some oS∧Z7 ((putRow w6 b (i*15) (ec x)).heap[b]?) (i*15) 15=true:=by
 have h0:Z7 (w6.heap[b]?) (i*15) (ec x).size=true:=by rw [rE,QL];exact Jd he r T
 have hi:=(Vg he).1
 have h2:(en.set i x)[i]? =some x:=List.getElem?_set_self hi
 have h1:Yx (some (.cells (sq En.enc en r) T (0,0))) (i*15) (ec x)=some (.cells (sq En.enc (en.set i x) r) T (0,0)):=YW En.len x he r T (0,0)
 refine ⟨by rw [Qb _ _ _ _ _ h0,if_neg ne];exact rS,?_⟩
 rw [Qb _ _ _ _ _ h0,if_pos rfl,rE,h1]
 exact Jd h2 r T
section
variable {W:World} {c:Cg} {z:RLay} {L:List (Po×Pt)} {en:List En} {es:List Ent} {xs:List Int}
theorem rmem2 {w w':World} (h:Rsd W w c z L en es xs) {es':List Ent} {xs':List Int} {val:Value} {e:Ending} (hr:Qha w z.q z.be z.g z.b c.li c.vo c.qu es' xs' val e w'):e=.returned val∧∃be',RTo W w c z L {z with be:=be'} L en es' xs' w':=by
 obtain ⟨he,be',hs,hc,hb⟩:=hr
 refine ⟨he,be',h.memory ⟨h.chg.trans' hc ?_,hs⟩ hc hb⟩
 intro k hk
 refine .inr (h.new k (RLay.inB (RLay.beB ?_)))
 simp only [List.mem_cons,Vn,or_false] at hk
 rcases hk with h1|h1|h1|h1<;>simp [h1]
theorem rDrain_off (k:Int) (w:World) (h:Rsd W w c z L en es xs) (hk:inB k c.li=false):Calls Tryz.prog 62 #[.pointer (some ⟨z.sy,0,none⟩),.int .i64 k] w fun r w'=>r=.returned (.int .i64 1)∧Chg [] w w':=by
 have HH:=Vh h
 have HK:=Vh hk
 clear h hk
 go_enter Tryz.func62,Tryz.ntmps62
 exact Tz119
theorem rDrop_off (k:Int) (w:World) (h:Rsd W w c z L en es xs) (hk:inB k c.li=false):Calls Tryz.prog 61 #[.pointer (some ⟨z.sy,0,none⟩),.int .i64 k] w fun r w'=>r=.returned (.int .i64 1)∧Chg [] w w':=by
 have HH:=Vh h
 have HK:=Vh hk
 clear h hk
 go_enter Tryz.func61,Tryz.ntmps61
 exact Tz119
theorem rDrain_ok (k:Int) (w:World) (h:Rsd W w c z L en es xs) (hk:inB k c.li=true):Calls Tryz.prog 62 #[.pointer (some ⟨z.sy,0,none⟩),.int .i64 k] w fun r w'=>r=.returned (.int .i64 (Y1 es k))∧∃be',RTo W w c z L {z with be:=be'} L en (Jl es k) (Y7 xs es k) w':=by
 have rS:=h.sys
 have HH:=Vh h
 have HK:=Vh hk
 have HD:=Vh (rany_drain h.mem.2 k)
 have hv:=drain_val es k
 generalize Y1 es k=v at HD hv ⊢
 generalize Jl es k=es' at HD ⊢
 generalize Y7 xs es k=xs' at HD ⊢
 clear h hk
 go_enter Tryz.func62,Tryz.ntmps62
 try dsimp only [List.append]
 go_wp2_with fail
 refine (Xu k true _ HH.out HK.out).mono ?_
 rintro e w' ⟨rfl,rfl⟩
 go_wp2_with fail
 refine HD.out.mono ?_
 intro e w2 hr
 obtain ⟨rfl,be',M2⟩:=rmem2 HH.out hr
 have HM2:=Vh M2
 clear M2 hr
 go_wp2_with fail
 go_ret
 exact ⟨rfl,be',HM2.out⟩
theorem rDrop_kept (i:Nat) (e:En) (w:World) (h:Rsd W w c z L en es xs) (he:en[i]? =some e) (hd:Jt e=true):Calls Tryz.prog 61 #[.pointer (some ⟨z.sy,0,none⟩),.int .i64 i] w fun r w'=>r=.returned (.int .i64 16)∧Chg [] w w':=by
 have hi:i<c.li:=by rw [←h.lines];exact (Vg he).1
 have rS:=h.sys
 have rE:=h.ents
 have oS:=old rS
 have oE:=old rE
 have p0:=fun t f=>Qg0 he z.er t f
 have p1:=fun t f=>JU he z.er t f
 have g0:(0:Int)≤(i:Int):=by omega
 have g1:(i:Int)<(c.li:Int):=by omega
 have HH:=Vh h
 have HB:=Vh (show inB (i:Int) c.li=true by unfold inB;simp;omega)
 have HE:=Vh he
 clear h he hi
 cases h1:e.he
 ·clear hd
  exact Tz52
 cases h2:decide (0≤e.ow)
 ·cases h3:(e.sh !=0#8)
  ·have h4:(e.bu !=0)=true:=by unfold Jt at hd;rw [h1,h2,h3] at hd;simpa using hd
   clear hd
   exact Tz52
  ·clear hd
   exact Tz52
 ·clear hd
  exact Tz52
theorem rDrop_clean (i:Nat) (e:En) (w:World) (h:Rsd W w c z L en es xs) (he:en[i]? =some e) (hd:Jt e=false) (hdi:e.di=false):
 Calls Tryz.prog 61 #[.pointer (some ⟨z.sy,0,none⟩),.int .i64 i] w fun r w'=>r=.returned (.int .i64 0)∧RTo W w c z L z L (en.set i enE) es xs w':=by
 have hi:i<c.li:=by rw [←h.lines];exact (Vg he).1
 have rS:=h.sys
 have rE:=h.ents
 have oS:=old rS
 have oE:=old rE
 have p0:=fun t f=>Qg0 he z.er t f
 have p1:=fun t f=>JU he z.er t f
 have g0:(0:Int)≤(i:Int):=by omega
 have g1:(i:Int)<(c.li:Int):=by omega
 have HH:=Vh h
 have HB:=Vh (show inB (i:Int) c.li=true by unfold inB;simp;omega)
 have HE:=Vh he
 have h1:e.he=true:=by unfold Jt at hd;cases h0:e.he<;>simp [h0] at hd ⊢
 have h2:decide (0≤e.ow)=false:=by unfold Jt at hd;rw [h1] at hd;simp at hd;simpa using hd.1.1
 have h3:(e.sh !=0#8)=false:=by unfold Jt at hd;rw [h1] at hd;simp at hd;simpa using hd.1.2
 have h4:(e.bu !=0)=false:=by unfold Jt at hd;rw [h1] at hd;simp at hd;simpa using hd.2
 clear h he hi hd
 go_enter Tryz.func61,Tryz.ntmps61
 try dsimp only [List.append]
 go_wp2_with fail
 refine (Xu (i:Int) true _ HH.out HB.out).mono ?_
 rintro e w' ⟨rfl,rfl⟩
 go_wp2_with fail
 have C5:=Vh ((Chg.refl [] w).alloc (.cells (ec e) 117))
 have M5:=Vh (HH.out.stay C5.out)
 replace rS:=C5.out.keep rS Vn
 replace rE:=C5.out.keep rE Vn
 have NSE:=Vh (show z.sy≠z.en from HH.out.ne6.1.2.2.2.2)
 clear oS oE
 generalize w.alloc (.cells (ec e) 117)=w5 at C5 M5 rS rE ⊢
 have oS:=old rS
 have oE:=old rE
 have KP:∀w',Chg [] w5 w'→w'.heap[z.sy]? =some (.cells (z.enc c).toArray 107 (0,0))∧Z7 (w'.heap[z.en]?) (i*15) 15=true:=fun w' hc=>⟨hc.keep rS Vn,by rw [hc.keep rE Vn];exact Jd HE.out z.er _⟩
 have KPH:=Vh KP
 have KQ:∀w',Chg [] w5 w'→(putRow w' z.en (i*15) (ec enE)).heap[z.sy]? =some (.cells (z.enc c).toArray 107 (0,0))∧Z7 ((putRow w' z.en (i*15) (ec enE)).heap[z.en]?) (i*15) 15=true:=fun w' hc=>put_keep (hc.keep rS Vn) (hc.keep rE Vn) HE.out NSE.out
 have KQH:=Vh KQ
 have KD:w5.drew.heap[z.sy]? =some (.cells (z.enc c).toArray 107 (0,0))∧Z7 (w5.drew.heap[z.en]?) (i*15) 15=true:=KP _ ((Chg.refl [] w5).drew)
 have KDH:=Vh KD
 clear KP KQ KD
 go_region_held3 (fun w'=>w'.heap[z.sy]? =some (.cells (z.enc c).toArray 107 (0,0))∧Z7 (w'.heap[z.en]?) (i*15) 15=true) (first |with_reducible exact KDH.out|with_reducible exact KPH.out w6 (Chg.trans ((Chg.refl [] w5).drew) cw6)|with_reducible exact KQH.out w6 (Chg.trans ((Chg.refl [] w5).drew) cw6)) (first |(go_at_call 101;refine (Qew _).mono ?_;rintro r w6 ⟨rfl,cw6⟩))
 all_goals
  have q0:=fun t=>Jd HE.out z.er t
  have q1:=fun t f=>YW En.len enE HE.out z.er t f
  have q2:∀t f,Yx (some (.cells (sq En.enc en z.er) t f)) (i*15) (ec enE)=some (.cells (sq En.enc (en.set i enE) z.er) t f):=q1
  clear q1
  have M6:=Vh (M5.out.trans (M5.out.1.stay (Chg.trans ((Chg.refl [] w5).drew) cw6)))
  have c10:Chg [z.en] w6 (putRow w6 z.en (i*15) (ec enE)):=(Chg.refl [z.en] w6).putRow _ _ _ (.inl (by simp))
  have rE6:=(Chg.trans ((Chg.refl [] w5).drew) cw6).keep rE Vn
  have h10:(putRow w6 z.en (i*15) (ec enE)).heap[z.en]? =some (.cells (sq En.enc (en.set i enE) z.er) 117 (0,0)):=by
   rw [Qb _ _ _ _ _ (by rw [rE6,QL];exact q0 _),if_pos rfl,rE6]
   exact q2 _ _
  have hr2:=M6.out.1.other c10 h10 Cz14
  have M10:=Vh (M6.out.trans hr2)
  clear c10 h10 hr2 q0 q2 rS rE rE6 oS oE
  generalize putRow w6 z.en (i*15) (ec enE)=w10 at M10 ⊢
  go_wp2_with fail
  go_ret
  exact ⟨rfl,M10.out⟩
theorem rDrop_dirty (i:Nat) (e:En) (w:World) (h:Rsd W w c z L en es xs) (he:en[i]? =some e) (hd:Jt e=false) (hdi:e.di=true) (v:Int) (hv:Yt c.li c.qu es i=v) (es':List Ent) (hs:Qap c.li c.qu es i e.l e.h=es'):
 Calls Tryz.prog 61 #[.pointer (some ⟨z.sy,0,none⟩),.int .i64 i] w fun r w'=>(v≠0∧r=.returned (.int .i64 v)∧∃be',RTo W w c z L {z with be:=be'} L en es' xs w')∨(v=0∧r=.returned (.int .i64 0)∧∃be',RTo W w c z L {z with be:=be'} L (en.set i enE) es' xs w'):=by
 have hi:i<c.li:=by rw [←h.lines];exact (Vg he).1
 have rS:=h.sys
 have rE:=h.ents
 have oS:=old rS
 have oE:=old rE
 have p0:=fun t f=>Qg0 he z.er t f
 have p1:=fun t f=>JU he z.er t f
 have g0:(0:Int)≤(i:Int):=by omega
 have g1:(i:Int)<(c.li:Int):=by omega
 have HH:=Vh h
 have HB:=Vh (show inB (i:Int) c.li=true by unfold inB;simp;omega)
 have HE:=Vh he
 have h1:e.he=true:=by unfold Jt at hd;cases h0:e.he<;>simp [h0] at hd ⊢
 have h2:decide (0≤e.ow)=false:=by unfold Jt at hd;rw [h1] at hd;simp at hd;simpa using hd.1.1
 have h3:(e.sh !=0#8)=false:=by unfold Jt at hd;rw [h1] at hd;simp at hd;simpa using hd.1.2
 have h4:(e.bu !=0)=false:=by unfold Jt at hd;rw [h1] at hd;simp at hd;simpa using hd.2
 have hpu:∀w1,Chg [] w w1→Calls Tryz.prog 119 #[.pointer (some ⟨z.q,0,none⟩),.int .i64 (i:Int),.agg (vs e.l)] w1 (Qha w1 z.q z.be z.g z.b c.li c.vo c.qu es' xs (.int .i64 v)):=fun w1 c1=>hs▸hv▸rany_push (h.keep c1).mem.2 (i:Int) e.l e.h
 have HPU:=Vh hpu
 clear h he hi hd hv hs hpu
 go_enter Tryz.func61,Tryz.ntmps61
 try dsimp only [List.append]
 go_wp2_with fail
 refine (Xu (i:Int) true _ HH.out HB.out).mono ?_
 rintro e w' ⟨rfl,rfl⟩
 go_wp2_with fail
 have C1:=Vh ((Chg.refl [] w).alloc (.cells (ec e) 117))
 have r1:(w.alloc (.cells (ec e) 117)).heap[w.heap.size]? =some (.cells (ec e) 117 (0,0)):=by simp
 replace rS:=C1.out.keep rS Vn
 clear oS oE rE
 generalize w.heap.size=b1 at r1 ⊢
 generalize w.alloc (.cells (ec e) 117)=w1 at C1 r1 rS ⊢
 have oS:=old rS
 have o1:=old r1
 go_wp2_with fail
 go_region_with ((go_at_call 119;refine (HPU.out _ C1.out.drew).mono ?_;intro r w5 hr;obtain ⟨rfl,be',M5⟩:=rmem2 (HH.out.keep C1.out.drew) hr))
 all_goals
  have HM5:=Vh ((HH.out.stay C1.out.drew).trans M5)
  clear M5 r1 rS oS o1
  have rS:w5.heap[z.sy]? =some (.cells (z.enc c).toArray 107 (0,0)):=HM5.out.1.sys
  have rE:w5.heap[z.en]? =some (.cells (sq En.enc en z.er) 117 (0,0)):=HM5.out.1.ents
  have oS:=old rS
  have oE:=old rE
  by_cases hv:v=0
  ·obtain rfl:=hv
   have M5:=Vh HM5.out
   have NSE:=Vh (show z.sy≠z.en from HH.out.ne6.1.2.2.2.2)
   go_wp2_with fail
   have KP:∀w',Chg [] w5 w'→w'.heap[z.sy]? =some (.cells (z.enc c).toArray 107 (0,0))∧Z7 (w'.heap[z.en]?) (i*15) 15=true:=fun w' hc=>⟨hc.keep rS Vn,by rw [hc.keep rE Vn];exact Jd HE.out z.er _⟩
   have KPH:=Vh KP
   have KQ:∀w',Chg [] w5 w'→(putRow w' z.en (i*15) (ec enE)).heap[z.sy]? =some (.cells (z.enc c).toArray 107 (0,0))∧Z7 ((putRow w' z.en (i*15) (ec enE)).heap[z.en]?) (i*15) 15=true:=fun w' hc=>put_keep (hc.keep rS Vn) (hc.keep rE Vn) HE.out NSE.out
   have KQH:=Vh KQ
   have KD:w5.drew.heap[z.sy]? =some (.cells (z.enc c).toArray 107 (0,0))∧Z7 (w5.drew.heap[z.en]?) (i*15) 15=true:=KP _ ((Chg.refl [] w5).drew)
   have KDH:=Vh KD
   clear KP KQ KD
   go_region_held3 (fun w'=>w'.heap[z.sy]? =some (.cells (z.enc c).toArray 107 (0,0))∧Z7 (w'.heap[z.en]?) (i*15) 15=true) (first |with_reducible exact KDH.out|with_reducible exact KPH.out w6 (Chg.trans ((Chg.refl [] w5).drew) cw6)|with_reducible exact KQH.out w6 (Chg.trans ((Chg.refl [] w5).drew) cw6)) (first |(go_at_call 101;refine (Qew _).mono ?_;rintro r w6 ⟨rfl,cw6⟩))
   all_goals
    have q0:=fun t=>Jd HE.out z.er t
    have q1:=fun t f=>YW En.len enE HE.out z.er t f
    have q2:∀t f,Yx (some (.cells (sq En.enc en z.er) t f)) (i*15) (ec enE)=some (.cells (sq En.enc (en.set i enE) z.er) t f):=q1
    clear q1
    have M6:=Vh (M5.out.trans (M5.out.1.stay (Chg.trans ((Chg.refl [] w5).drew) cw6)))
    have c10:Chg [z.en] w6 (putRow w6 z.en (i*15) (ec enE)):=(Chg.refl [z.en] w6).putRow _ _ _ (.inl (by simp))
    have rE6:=(Chg.trans ((Chg.refl [] w5).drew) cw6).keep rE Vn
    have h10:(putRow w6 z.en (i*15) (ec enE)).heap[z.en]? =some (.cells (sq En.enc (en.set i enE) z.er) 117 (0,0)):=by
     rw [Qb _ _ _ _ _ (by rw [rE6,QL];exact q0 _),if_pos rfl,rE6]
     exact q2 _ _
    have hr2:=M6.out.1.other c10 h10 Cz14
    have M10:=Vh (M6.out.trans hr2)
    clear c10 h10 hr2 q0 q2 rS rE rE6 oS oE
    generalize putRow w6 z.en (i*15) (ec enE)=w10 at M10 ⊢
    go_wp2_with fail
    go_ret
    exact ⟨rfl,be',M10.out⟩
  ·have tv:(v !=0)=true:=by simpa using hv
   clear rE oE
   go_wp2_with fail
   go_ret
   first |exact ⟨hv,rfl,be',HM5.out⟩|exact .inl ⟨hv,rfl,be',HM5.out⟩|exact ⟨rfl,be',HM5.out⟩
end
end
section
section
attribute [local go_sem ↓] QA QQ QH Q8 Zc QS QC Za QN ZB Zk Qm Ql heap_alloc Qo heap_setCell Qb ZF ZM ZK ZN ZL
attribute [local go_sem] Qc Qa Qd Qj Qf Qe Qh Qi Qw ZE QZ Zy QO QG Q6 Q0 Q5 Zi Zz Q9 QM QB QI Zj Q7 Qz QP Qt Qk Qs Qr Qq Qp Qg Ze lit8 Qv ZA Zl Zm
attribute [local simp ↓] Qm Ql heap_alloc Qo heap_setCell Qb
attribute [local simp] Qc Qa Qd Qj Qf Qe Qh Qi Qw QB Qk Qs Qr Qq Qp Qg Qv
attribute [local go_sem ↓] XP XQ XO XN XS XR XM XZ
attribute [local go_sem] Xi XV Xh ZR ZT QL Xp ZZ X3 Zw QW QV QU QY QX QT QK QJ Zg Zf Xm ZW
attribute [local simp] QL Zf QW QV QU QY QX QT QK QJ Zg
attribute [local go_sem ↓] Xo ZV Xn ZU Z0
attribute [local go_sem] Xk Xj ZY Xl Qx Qy Z6
attribute [local simp] Z0 Qx Qy QI Zw
attribute [local go_sem ↓] Qag Jo Qa3 JH
attribute [local go_sem] J7 Qa2
set_option maxHeartbeats 4000000 in
theorem Qfc (x:En) (w:World) (g1:Yb x=true):Calls Tryz.prog 120 #[.agg (ec x)] w fun e w'=>∃b,e=.returned (.tuple #[.agg (ec ((XG x).setDi false)),.slice (some ⟨b,0,none⟩) 1 1,.int .i64 0])∧w'.heap[b]? =some (.cells (sc ⟨x.by_,ms4 14 0 false false⟩) 195 (0,0))∧w.heap.size≤b∧Chg [] w w':=by
 have hc:isC x.by_=true:=ready_by g1
 go_enter Tryz.func120,Tryz.ntmps120
 try dsimp only [List.append]
 go_wp2_with fail
 refine Qbk (w:=w) (b1:=w.heap.size) (x1:=.cells (ec (x)) 117 (0,0)) (b2:=w.heap.size+1) (x2:=.cells (ec (enZ)) 117 (0,0)) Cz0 (by simp [*]) (by simp [*]) fun w1 C1 rE rR=>?_
 have oE:=old rE
 have oR:=old rR
 refine (rready_at x _ g1 w1).mono ?_
 rintro e w3 ⟨rfl,c3⟩
 have rE3:=c3.keep rE (by simp)
 have rR3:=c3.keep rR (by simp)
 have C3:=C1.trans c3
 clear rE rR oE oR C1 c3 g1
 have oE3:=old rE3
 have oR3:=old rR3
 go_wp2_with fail
 refine Qbk (w:=w) (b1:=w.heap.size) (x1:=.cells (ec (x.setDi false)) 117 (0,0)) (b2:=w.heap.size+1) (x2:=.cells (ec (enZ)) 117 (0,0)) Cz0 (by simp [*]) (by simp [*]) fun w4 C4 rE rR=>?_
 have oE:=old rE
 have oR:=old rR
 refine (Qex _ _).mono ?_
 rintro e w5 ⟨rfl,c2⟩
 have rR2:=c2.keep rR (by simp)
 have C5:=C4.trans c2
 clear rR oR rE oE c2
 have oR2:=old rR2
 go_wp2_with fail
 refine (J5 _ _ _ _).mono ?_
 rintro e w6 ⟨rfl,c3⟩
 have rR3:=c3.keep rR2 (by simp)
 have C6:=C5.trans c3
 clear rR2 oR2 c3
 have oR3:=old rR3
 have hz:=C6.size
 go_wp2_with fail
 refine bodyPost_ret (v:=.tuple #[.agg (ec ((XG x).setDi false)),.slice (some ⟨w6.heap.size,0,none⟩) 1 1,.int .i64 0]) ?_ (by rfl) ?_
 ·exact Xx (by rfl) _ _ (w.heap.size+1) _ (0,0) (by rfl) (by simp [rR3];try rfl) _ _ (by rfl) (by rfl)
 exact ⟨w6.heap.size,rfl,((Chg.refl [w.heap.size+1] (w6.alloc (.cells (sc ⟨x.by_,ms4 14 0 false false⟩) 195))).putRow (w.heap.size+1) 0 _ (.inl (by simp))).keep (by simp) (by have:=oR3.lt;simp;omega),C6.size,((C6.alloc _).putRow _ _ _ (.inr (by omega)))⟩
end
attribute [local go_sem ↓] Xg Qac Jh Jj Jf Ji Jg
attribute [local simp] Xg
attribute [local go_sem ↓] Qag Jo Qa3 JH
attribute [local go_sem] J7 Qa2
section
variable {W:World} {c:Cg} {z:RLay} {L:List (Po×Pt)} {en:List En} {es:List Ent} {xs:List Int}
theorem rPush_off (k:Int) (w:World) (h:Rsd W w c z L en es xs) (hk:inB k c.li=false):Calls Tryz.prog 59 #[.pointer (some ⟨z.sy,0,none⟩),.int .i64 k] w fun r w'=>r=.returned (.int .i64 1)∧Chg [] w w':=by
 have HH:=Vh h
 have HK:=Vh hk
 clear h hk
 go_enter Tryz.func59,Tryz.ntmps59
 exact Tz119
theorem rPush_not (i:Nat) (e:En) (w:World) (h:Rsd W w c z L en es xs) (he:en[i]? =some e) (hd:Yb e=false):Calls Tryz.prog 59 #[.pointer (some ⟨z.sy,0,none⟩),.int .i64 i] w fun r w'=>r=.returned (.int .i64 16)∧Chg [] w w':=by
 have hi:i<c.li:=by rw [←h.lines];exact (Vg he).1
 have rS:=h.sys
 have rE:=h.ents
 have oS:=old rS
 have oE:=old rE
 have p0:=fun t f=>Qg0 he z.er t f
 have p1:=fun t f=>JU he z.er t f
 have g0:(0:Int)≤(i:Int):=by omega
 have g1:(i:Int)<(c.li:Int):=by omega
 have HH:=Vh h
 have HB:=Vh (show inB (i:Int) c.li=true by unfold inB;simp;omega)
 have HE:=Vh he
 have HRE:=Vh hd
 clear h he hi hd
 go_enter Tryz.func59,Tryz.ntmps59
 try dsimp only [List.append]
 go_wp2_with fail
 refine (Xu (i:Int) true _ HH.out HB.out).mono ?_
 rintro e w' ⟨rfl,rfl⟩
 go_wp2_with fail
 have C1:=Vh ((Chg.refl [] w).alloc (.cells (ec e) 117))
 have r1:(w.alloc (.cells (ec e) 117)).heap[w.heap.size]? =some (.cells (ec e) 117 (0,0)):=by simp
 replace rS:=C1.out.keep rS Vn
 replace rE:=C1.out.keep rE Vn
 have N1:=Vh (show w.heap.size∉z.all L from fun hm=>by have:=HH.out.old _ hm;omega)
 clear oS oE
 generalize w.heap.size=b1 at r1 N1 ⊢
 generalize w.alloc (.cells (ec e) 117)=w1 at C1 r1 rS rE ⊢
 have oS:=old rS
 have oE:=old rE
 have o1:=old r1
 go_wp2_with fail
 refine (Qcv e _).mono ?_
 rintro r w3 ⟨rfl,c3⟩
 rw [HRE.out]
 have C3:=Vh (C1.out.trans c3)
 replace rS:=c3.keep rS Vn
 replace rE:=c3.keep rE Vn
 replace r1:=c3.keep r1 Vn
 clear oS oE o1 c3
 have oS:=old rS
 have oE:=old rE
 have o1:=old r1
 go_wp2_with fail
 go_ret
 exact ⟨rfl,C3.out⟩
set_option maxHeartbeats 4000000 in
theorem rPush_clean (i:Nat) (e:En) (w:World) (h:Rsd W w c z L en es xs) (he:en[i]? =some e) (hd:Yb e=true) (hco:e.by_<c.co) (hg:mg (ms4 14 i false false)=true) (hdi:e.di=false) (M:Nat) (hM:∀x∈ports L,x.dn.length≤M) (hMn:M+1≤1000):
 Calls Tryz.prog 59 #[.pointer (some ⟨z.sy,0,none⟩),.int .i64 i] w fun r w'=>r=.returned (.int .i64 0)∧∃z' L',z'.sy=z.sy∧RTo W w c z L z' L' (en.set i ((XG e).setDi false)) es xs w'∧ports L'=XY (ports L) [⟨e.by_,ms4 14 i false false⟩]:=by
 have hi:i<c.li:=by rw [←h.lines];exact (Vg he).1
 have rS:=h.sys
 have rE:=h.ents
 have oS:=old rS
 have oE:=old rE
 have p0:=fun t f=>Qg0 he z.er t f
 have p1:=fun t f=>JU he z.er t f
 have g0:(0:Int)≤(i:Int):=by omega
 have g1:(i:Int)<(c.li:Int):=by omega
 have HH:=Vh h
 have HB:=Vh (show inB (i:Int) c.li=true by unfold inB;simp;omega)
 have HE:=Vh he
 have HRE:=Vh hd
 have HC:=Vh (show 0≤e.by_ by have hc:=ready_by hd;unfold isC at hc;simp at hc;omega)
 have HCO:=Vh hco
 have HG:=Vh hg
 have HMM:=Vh hM
 have HMN:=Vh hMn
 clear h he hi hd hco hg hM hMn
 go_enter Tryz.func59,Tryz.ntmps59
 try dsimp only [List.append]
 go_wp2_with fail
 refine (Xu (i:Int) true _ HH.out HB.out).mono ?_
 rintro e w' ⟨rfl,rfl⟩
 go_wp2_with fail
 have C1:=Vh ((Chg.refl [] w).alloc (.cells (ec e) 117))
 have r1:(w.alloc (.cells (ec e) 117)).heap[w.heap.size]? =some (.cells (ec e) 117 (0,0)):=by simp
 replace rS:=C1.out.keep rS Vn
 replace rE:=C1.out.keep rE Vn
 have N1:=Vh (show w.heap.size∉z.all L from fun hm=>by have:=HH.out.old _ hm;omega)
 clear oS oE
 generalize w.heap.size=b1 at r1 N1 ⊢
 generalize w.alloc (.cells (ec e) 117)=w1 at C1 r1 rS rE ⊢
 have oS:=old rS
 have oE:=old rE
 have o1:=old r1
 go_wp2_with fail
 refine (Qcv e _).mono ?_
 rintro r w3 ⟨rfl,c3⟩
 rw [HRE.out]
 have C3:=Vh (C1.out.trans c3)
 replace rS:=c3.keep rS Vn
 replace rE:=c3.keep rE Vn
 replace r1:=c3.keep r1 Vn
 clear oS oE o1 c3
 have oS:=old rS
 have oE:=old rE
 have o1:=old r1
 go_wp2_with fail
 have M5:=Vh (HH.out.stay C3.out)
 have SZ5:=Vh C3.out.size
 refine (Qfc e _ HRE.out).mono ?_
 rintro r w6 ⟨b,rfl,rb,hb,cw6⟩
 have M6:=Vh (M5.out.trans (M5.out.1.stay cw6))
 have HBW:=Vh (show w.heap.size≤b from Nat.le_trans SZ5.out hb)
 have HBZ:=Vh (show b∉z.all L from fun hm=>by have:=M5.out.1.old _ hm;omega)
 replace rS:=cw6.keep rS Vn
 replace rE:=cw6.keep rE Vn
 obtain ⟨e',he'⟩:∃e',(XG e).setDi false=e':=⟨_,rfl⟩
 rw [he']
 have hx:((sc ⟨e.by_,ms4 14 0 false false⟩).toList.drop 0).take 13=Sd.enc ⟨e.by_,ms4 14 0 false false⟩:=by
  rw [show ∀x:Sd,(sc x).toList=Sd.enc x from fun x=>by simp [sc],List.drop_zero,List.take_of_length_le (by rw [Sd.len];exact Nat.le_refl _)]
 generalize sc ⟨e.by_,ms4 14 0 false false⟩=cs at rb hx
 have HX:=Vh hx
 have HE9:=Vh he'
 clear oS oE o1 r1 hb cw6 hx he'
 have oS:=old rS
 have oE:=old rE
 have ob:=old rb
 go_wp2_with fail
 have r3:(w6.alloc (.cells (ec e') 117)).heap[w6.heap.size]? =some (.cells (ec e') 117 (0,0)):=Yr _ _
 have c7:=(Chg.refl [] w6).alloc (.cells (ec e') 117)
 have M7:=Vh (M6.out.trans (M6.out.1.stay c7))
 have nb3:b≠w6.heap.size:=by have:=ob.lt;omega
 have N3:=Vh (show w6.heap.size∉z.all L from fun hm=>by have:=M6.out.1.old _ hm;omega)
 replace rS:=c7.keep rS Vn
 replace rE:=c7.keep rE Vn
 replace rb:=c7.keep rb Vn
 clear c7 oS oE ob
 generalize w6.heap.size=b3 at r3 nb3 N3 ⊢
 generalize w6.alloc (.cells (ec e') 117)=w7 at r3 M7 rS rE rb ⊢
 have RS7:=Vh rS
 have RE7:=Vh rE
 have R37:=Vh r3
 have oS:=old rS
 have oE:=old rE
 have ob:=old rb
 have o3:=old r3
 go_wp2_with fail
 go_loopw [10] (fun ix wr=>∃(j:Nat) (cs':Array Value),j≤1∧ix=.int .i64 j∧Chg [b] w7 wr∧wr.heap[b]? =some (.cells cs' 195 (0,0))∧(j=0→cs'=cs)∧(j=1→cs'=cs.setIfInBounds 2 (.int .i64 i))) (fun ix _=>1-(intOf ix).toNat)
 case atStart=>exact ⟨0,cs,by omega,rfl,Chg.refl _ _,rb,fun _=>rfl,by omega⟩
 case round=>
  obtain ⟨j,cs',hj,rfl,hc,hb,h0,h1⟩:=hrel
  have HC0:=Vh hc
  have H1:=Vh h1
  clear hc h1 rb r3 rS rE ob o3 oS oE
  by_cases hlt:j<1
  ·obtain rfl:j=0:=by omega
   exact Tz38
  ·obtain rfl:j=1:=by omega
   obtain rfl:=H1.out rfl
   have hsl:Sl wr 13 (some ⟨b,0,none⟩) 1 (cat Sd.enc [⟨e.by_,ms4 14 i false false⟩]):=⟨by simp [cat,Sd.len],.inr ⟨b,0,_,195,(0,0),rfl,hb,by
    rw [Array.toList_setIfInBounds,Qe0 _ _ 0 _ HX.out,sd_line];simp [cat]⟩⟩
   have M8:=Vh (M7.out.wrap HC0.out (by intro k hk;rw [List.mem_singleton] at hk;subst hk;exact ⟨HBZ.out,HBW.out⟩) HH.out.chg.size)
   have rS:=HC0.out.keep RS7.out Cz22
   have rE:=HC0.out.keep RE7.out Cz22
   have r3:=HC0.out.keep R37.out (by simp;omega)
   have HSL:=Vh hsl
   have LTB:=Vh (ZS hb)
   clear hsl h0 hb hlt hj
   have oS:=old rS
   have oE:=old rE
   have o3:=old r3
   have q0:=fun t=>Jd HE.out z.er t
   have q1:=fun t f=>YW En.len e' HE.out z.er t f
   have q2:∀t f,Yx (some (.cells (sq En.enc en z.er) t f)) (i*15) (ec e')=some (.cells (sq En.enc (en.set i e') z.er) t f):=q1
   clear q1
   go_wp2_with fail
   go_region
   all_goals
    have c10:Chg [z.en] wr (putRow wr.drew z.en (i*15) (ec e')):=((Chg.refl [z.en] wr).drew).putRow _ _ _ (.inl (by simp))
    have h10:(putRow wr.drew z.en (i*15) (ec e')).heap[z.en]? =some (.cells (sq En.enc (en.set i e') z.er) 117 (0,0)):=by
     rw [Qb _ _ _ _ _ (by rw [Qm,rE,QL];exact q0 _),if_pos rfl,Qm,rE]
     exact q2 _ _
    have hr2:=M8.out.1.other c10 h10 Cz14
    have M10:=Vh (M8.out.trans hr2)
    have hS:=HSL.out.chg c10 (by intro a ha;cases ha;simp;intro e1;exact HBZ.out (by rw [e1];exact RLay.inB (RLay.beB (by simp))))
    have LT10:b<(putRow wr.drew z.en (i*15) (ec e')).heap.size:=Nat.lt_of_lt_of_le LTB.out c10.size
    have hsn:=Qa9 (some ⟨b,0,none⟩) 1 1 [⟨e.by_,ms4 14 i false false⟩] _ M10.out.1 rfl hS (by intro _ a ha;cases ha;exact ⟨HBZ.out,LT10⟩) (by
     exact Tz134) M HMM.out HMN.out
    have HSN:=Vh hsn
    clear hsn hS hr2 c10 h10 q0 q2 rS rE r3 oS oE o3 LT10
    go_wp2_with fail
    refine HSN.out.mono ?_
    rintro r w11 ⟨rfl,L2,m11,hp11⟩
    have M11:=Vh (M10.out.trans m11)
    have HP11:=Vh hp11
    clear m11 hp11
    go_wp2_with fail
    go_ret
    have hfin:=(⟨z,L2,rfl,M11.out,HP11.out⟩:∃z' L',z'.sy=z.sy∧RTo W w c z L z' L' (en.set i e') es xs w11∧ports L'=XY (ports L) [⟨e.by_,ms4 14 i false false⟩])
    rw [←HE9.out] at hfin
    first
     |exact ⟨rfl,hfin⟩
     |exact ⟨rfl,hfin.elim fun a h=>h.elim fun b h=>⟨a,h.1,b,h.2⟩⟩
set_option maxHeartbeats 4000000 in
theorem rPush_dirty (i:Nat) (e:En) (w:World) (h:Rsd W w c z L en es xs) (he:en[i]? =some e) (hd:Yb e=true) (hco:e.by_<c.co) (hg:mg (ms4 14 i false false)=true) (hdi:e.di=true) (v:Int) (hv:Yt c.li c.qu es i=v) (es':List Ent) (hs:Qap c.li c.qu es i e.l e.h=es') (M:Nat) (hM:∀x∈ports L,x.dn.length≤M) (hMn:M+1≤1000):
 Calls Tryz.prog 59 #[.pointer (some ⟨z.sy,0,none⟩),.int .i64 i] w fun r w'=>(v≠0∧r=.returned (.int .i64 v)∧∃be',RTo W w c z L {z with be:=be'} L en es' xs w')∨(v=0∧r=.returned (.int .i64 0)∧∃z' L',z'.sy=z.sy∧RTo W w c z L z' L' (en.set i ((XG e).setDi false)) es' xs w'∧ports L'=XY (ports L) [⟨e.by_,ms4 14 i false false⟩]):=by
 have hi:i<c.li:=by rw [←h.lines];exact (Vg he).1
 have rS:=h.sys
 have rE:=h.ents
 have oS:=old rS
 have oE:=old rE
 have p0:=fun t f=>Qg0 he z.er t f
 have p1:=fun t f=>JU he z.er t f
 have g0:(0:Int)≤(i:Int):=by omega
 have g1:(i:Int)<(c.li:Int):=by omega
 have HH:=Vh h
 have HB:=Vh (show inB (i:Int) c.li=true by unfold inB;simp;omega)
 have HE:=Vh he
 have HRE:=Vh hd
 have HC:=Vh (show 0≤e.by_ by have hc:=ready_by hd;unfold isC at hc;simp at hc;omega)
 have HCO:=Vh hco
 have HG:=Vh hg
 have HMM:=Vh hM
 have HMN:=Vh hMn
 have hpu:∀w1,Chg [] w w1→Calls Tryz.prog 119 #[.pointer (some ⟨z.q,0,none⟩),.int .i64 (i:Int),.agg (vs e.l)] w1 (Qha w1 z.q z.be z.g z.b c.li c.vo c.qu es' xs (.int .i64 v)):=fun w1 c1=>hs▸hv▸rany_push (h.keep c1).mem.2 (i:Int) e.l e.h
 have HPU:=Vh hpu
 clear h he hi hd hv hs hpu hco hg hM hMn
 go_enter Tryz.func59,Tryz.ntmps59
 try dsimp only [List.append]
 go_wp2_with fail
 refine (Xu (i:Int) true _ HH.out HB.out).mono ?_
 rintro e w' ⟨rfl,rfl⟩
 go_wp2_with fail
 have C1:=Vh ((Chg.refl [] w).alloc (.cells (ec e) 117))
 have r1:(w.alloc (.cells (ec e) 117)).heap[w.heap.size]? =some (.cells (ec e) 117 (0,0)):=by simp
 replace rS:=C1.out.keep rS Vn
 replace rE:=C1.out.keep rE Vn
 have N1:=Vh (show w.heap.size∉z.all L from fun hm=>by have:=HH.out.old _ hm;omega)
 clear oS oE
 generalize w.heap.size=b1 at r1 N1 ⊢
 generalize w.alloc (.cells (ec e) 117)=w1 at C1 r1 rS rE ⊢
 have oS:=old rS
 have oE:=old rE
 have o1:=old r1
 go_wp2_with fail
 refine (Qcv e _).mono ?_
 rintro r w3 ⟨rfl,c3⟩
 rw [HRE.out]
 have C3:=Vh (C1.out.trans c3)
 replace rS:=c3.keep rS Vn
 replace rE:=c3.keep rE Vn
 replace r1:=c3.keep r1 Vn
 clear oS oE o1 c3
 have oS:=old rS
 have oE:=old rE
 have o1:=old r1
 go_wp2_with fail
 go_region_with ((go_at_call 119;refine (HPU.out _ C3.out.drew).mono ?_;intro r w5 hr;obtain ⟨rfl,be',M5⟩:=rmem2 (HH.out.keep C3.out.drew) hr))
 all_goals
  have HM5:=Vh ((HH.out.stay C3.out.drew).trans M5)
  have r15:w5.heap[b1]? =some (.cells (ec e) 117 (0,0)):=M5.2.1.keep (by rw [Qm];exact r1) N1.out
  clear M5 r1 rS rE oS oE o1
  have r1:=r15
  have rS:w5.heap[z.sy]? =some (.cells (z.enc c).toArray 107 (0,0)):=HM5.out.1.sys
  have rE:w5.heap[z.en]? =some (.cells (sq En.enc en z.er) 117 (0,0)):=HM5.out.1.ents
  clear r15
  have oS:=old rS
  have oE:=old rE
  have o1:=old r1
  by_cases hv:v=0
  ·obtain rfl:=hv
   have M5:=Vh HM5.out
   have SZ5:=Vh HM5.out.2.1.size
   go_wp2_with fail
   refine (Qfc e _ HRE.out).mono ?_
   rintro r w6 ⟨b,rfl,rb,hb,cw6⟩
   have M6:=Vh (M5.out.trans (M5.out.1.stay cw6))
   have HBW:=Vh (show w.heap.size≤b from Nat.le_trans SZ5.out hb)
   have HBZ:=Vh (show b∉({z with be:=be'}:RLay).all L from fun hm=>by have:=M5.out.1.old _ hm;omega)
   replace rS:=cw6.keep rS Vn
   replace rE:=cw6.keep rE Vn
   obtain ⟨e',he'⟩:∃e',(XG e).setDi false=e':=⟨_,rfl⟩
   rw [he']
   have hx:((sc ⟨e.by_,ms4 14 0 false false⟩).toList.drop 0).take 13=Sd.enc ⟨e.by_,ms4 14 0 false false⟩:=by
    rw [show ∀x:Sd,(sc x).toList=Sd.enc x from fun x=>by simp [sc],List.drop_zero,List.take_of_length_le (by rw [Sd.len];exact Nat.le_refl _)]
   generalize sc ⟨e.by_,ms4 14 0 false false⟩=cs at rb hx
   have HX:=Vh hx
   have HE9:=Vh he'
   clear oS oE o1 r1 hb cw6 hx he'
   have oS:=old rS
   have oE:=old rE
   have ob:=old rb
   go_wp2_with fail
   have r3:(w6.alloc (.cells (ec e') 117)).heap[w6.heap.size]? =some (.cells (ec e') 117 (0,0)):=Yr _ _
   have c7:=(Chg.refl [] w6).alloc (.cells (ec e') 117)
   have M7:=Vh (M6.out.trans (M6.out.1.stay c7))
   have nb3:b≠w6.heap.size:=by have:=ob.lt;omega
   have N3:=Vh (show w6.heap.size∉({z with be:=be'}:RLay).all L from fun hm=>by have:=M6.out.1.old _ hm;omega)
   replace rS:=c7.keep rS Vn
   replace rE:=c7.keep rE Vn
   replace rb:=c7.keep rb Vn
   clear c7 oS oE ob
   generalize w6.heap.size=b3 at r3 nb3 N3 ⊢
   generalize w6.alloc (.cells (ec e') 117)=w7 at r3 M7 rS rE rb ⊢
   have RS7:=Vh rS
   have RE7:=Vh rE
   have R37:=Vh r3
   have oS:=old rS
   have oE:=old rE
   have ob:=old rb
   have o3:=old r3
   go_wp2_with fail
   go_loopw [10] (fun ix wr=>∃(j:Nat) (cs':Array Value),j≤1∧ix=.int .i64 j∧Chg [b] w7 wr∧wr.heap[b]? =some (.cells cs' 195 (0,0))∧(j=0→cs'=cs)∧(j=1→cs'=cs.setIfInBounds 2 (.int .i64 i))) (fun ix _=>1-(intOf ix).toNat)
   case atStart=>exact ⟨0,cs,by omega,rfl,Chg.refl _ _,rb,fun _=>rfl,by omega⟩
   case round=>
    obtain ⟨j,cs',hj,rfl,hc,hb,h0,h1⟩:=hrel
    have HC0:=Vh hc
    have H1:=Vh h1
    clear hc h1 rb r3 rS rE ob o3 oS oE
    by_cases hlt:j<1
    ·obtain rfl:j=0:=by omega
     exact Tz38
    ·obtain rfl:j=1:=by omega
     obtain rfl:=H1.out rfl
     have hsl:Sl wr 13 (some ⟨b,0,none⟩) 1 (cat Sd.enc [⟨e.by_,ms4 14 i false false⟩]):=⟨by simp [cat,Sd.len],.inr ⟨b,0,_,195,(0,0),rfl,hb,by
      rw [Array.toList_setIfInBounds,Qe0 _ _ 0 _ HX.out,sd_line];simp [cat]⟩⟩
     have M8:=Vh (M7.out.wrap HC0.out (by intro k hk;rw [List.mem_singleton] at hk;subst hk;exact ⟨HBZ.out,HBW.out⟩) HH.out.chg.size)
     have rS:=HC0.out.keep RS7.out Cz22
     have rE:=HC0.out.keep RE7.out Cz22
     have r3:=HC0.out.keep R37.out (by simp;omega)
     have HSL:=Vh hsl
     have LTB:=Vh (ZS hb)
     clear hsl h0 hb hlt hj
     have oS:=old rS
     have oE:=old rE
     have o3:=old r3
     have q0:=fun t=>Jd HE.out z.er t
     have q1:=fun t f=>YW En.len e' HE.out z.er t f
     have q2:∀t f,Yx (some (.cells (sq En.enc en z.er) t f)) (i*15) (ec e')=some (.cells (sq En.enc (en.set i e') z.er) t f):=q1
     clear q1
     go_wp2_with fail
     go_region
     all_goals
      have c10:Chg [z.en] wr (putRow wr.drew z.en (i*15) (ec e')):=((Chg.refl [z.en] wr).drew).putRow _ _ _ (.inl (by simp))
      have h10:(putRow wr.drew z.en (i*15) (ec e')).heap[z.en]? =some (.cells (sq En.enc (en.set i e') z.er) 117 (0,0)):=by
       rw [Qb _ _ _ _ _ (by rw [Qm,rE,QL];exact q0 _),if_pos rfl,Qm,rE]
       exact q2 _ _
      have hr2:=M8.out.1.other c10 h10 Cz14
      have M10:=Vh (M8.out.trans hr2)
      have hS:=HSL.out.chg c10 (by intro a ha;cases ha;simp;intro e1;exact HBZ.out (by rw [e1];exact RLay.inB (RLay.beB (by simp))))
      have LT10:b<(putRow wr.drew z.en (i*15) (ec e')).heap.size:=Nat.lt_of_lt_of_le LTB.out c10.size
      have hsn:=Qa9 (some ⟨b,0,none⟩) 1 1 [⟨e.by_,ms4 14 i false false⟩] _ M10.out.1 rfl hS (by intro _ a ha;cases ha;exact ⟨HBZ.out,LT10⟩) (by
       exact Tz134) M HMM.out HMN.out
      have HSN:=Vh hsn
      clear hsn hS hr2 c10 h10 q0 q2 rS rE r3 oS oE o3 LT10
      go_wp2_with fail
      refine HSN.out.mono ?_
      rintro r w11 ⟨rfl,L2,m11,hp11⟩
      have M11:=Vh (M10.out.trans m11)
      have HP11:=Vh hp11
      clear m11 hp11
      go_wp2_with fail
      go_ret
      have hfin:=(⟨({z with be:=be'}:RLay),L2,rfl,M11.out,HP11.out⟩:∃z' L',z'.sy=z.sy∧RTo W w c z L z' L' (en.set i e') es' xs w11∧ports L'=XY (ports L) [⟨e.by_,ms4 14 i false false⟩])
      rw [←HE9.out] at hfin
      first
       |exact ⟨rfl,hfin⟩
       |exact ⟨rfl,hfin.elim fun a h=>h.elim fun b h=>⟨a,h.1,b,h.2⟩⟩
  ·have tv:(v !=0)=true:=by simpa using hv
   clear rE oE
   go_wp2_with fail
   go_ret
   first |exact ⟨hv,rfl,be',HM5.out⟩|exact .inl ⟨hv,rfl,be',HM5.out⟩|exact ⟨rfl,be',HM5.out⟩
end
end
section
attribute [local go_sem ↓] Xg Qac Jh Jj Jf Ji Jg
attribute [local simp] Xg
section
variable {W:World} {c:Cg} {z:RLay} {L:List (Po×Pt)} {en:List En} {es:List Ent} {xs:List Int}
theorem rHear_no (k:Int) (w:World) (h:Rsd W w c z L en es xs) (hk:inB k c.co=false):Calls Tryz.prog 58 #[.pointer (some ⟨z.sy,0,none⟩),.int .i64 k] w fun r w'=>r=.returned (.tuple #[.agg (msc msZ),.int .i64 1])∧Chg [] w w':=by
 have HH:=Vh h
 have HK:=Vh hk
 clear h hk
 have C1:=Vh ((Chg.refl [] w).alloc (.cells (msc msZ) 38))
 have r4:(w.alloc (.cells (msc msZ) 38)).heap[w.heap.size]? =some (.cells (msc msZ) 38 (0,0)):=by simp
 go_enter Tryz.func58,Tryz.ntmps58
 try dsimp only [List.append]
 go_wp2_with fail
 generalize hb4:w.heap.size=b4 at r4 ⊢
 have HB4:=Vh hb4
 clear hb4
 generalize w.alloc (.cells (msc msZ) 38)=w1 at r4 C1 ⊢
 have o4:=old r4
 go_wp2_with fail
 refine (Xr k false _ (HH.out.keep C1.out) HK.out).mono ?_
 rintro e w' ⟨rfl,rfl⟩
 go_wp2_with fail
 refine bodyPost_ret (v:=.tuple #[.agg (msc msZ),.int .i64 1]) ?_ (by rfl) ?_
 ·exact XA (by rfl) _ _ b4 msZ (0,0) (by rfl) (by simp [r4];try rfl) _ (by rfl)
 exact Tz131
theorem rHear_nil (i:Nat) (p:Po) (x:Pt) (w:World) (h:Rsd W w c z L en es xs) (hy:L[i]? =some (p,x)) (hu:x.dn=[]):Calls Tryz.prog 58 #[.pointer (some ⟨z.sy,0,none⟩),.int .i64 i] w fun r w'=>r=.returned (.tuple #[.agg (msc msZ),.int .i64 14])∧Chg [] w w':=by
 have rS:=h.sys
 have rQ:=h.ports
 have hi:i<c.co:=by rw [←h.cores];exact (Vg hy).1
 have g0:(0:Int)≤(i:Int):=by omega
 have g1:(i:Int)<(c.co:Int):=by omega
 have HKC:=Vh (show inB (i:Int) c.co=true by unfold inB;simp;omega)
 have HH:=Vh h
 have hcell:(sq Yz L [])[i*3+2]? =some (.slice p.dA 0 p.dc):=by
  have h1:(sq Yz L [])[i*3+2]? =some (.slice p.dA x.dn.length p.dc):=Qc6 hy 2 (by decide)
  rw [hu] at h1;exact h1
 clear h hy hu hi
 have C1:=Vh ((Chg.refl [] w).alloc (.cells (msc msZ) 38))
 have r4:(w.alloc (.cells (msc msZ) 38)).heap[w.heap.size]? =some (.cells (msc msZ) 38 (0,0)):=by simp
 replace rS:=C1.out.keep rS Vn
 replace rQ:=C1.out.keep rQ Vn
 go_enter Tryz.func58,Tryz.ntmps58
 try dsimp only [List.append]
 go_wp2_with fail
 generalize hb4:w.heap.size=b4 at r4 ⊢
 have HB4:=Vh hb4
 clear hb4
 generalize w.alloc (.cells (msc msZ) 38)=w1 at r4 C1 rS rQ ⊢
 have o4:=old r4
 have oS:=old rS
 have oQ:=old rQ
 go_wp2_with fail
 refine (Xr i true _ (HH.out.keep C1.out) HKC.out).mono ?_
 rintro e w' ⟨rfl,rfl⟩
 go_wp2_with fail
 refine bodyPost_ret (v:=.tuple #[.agg (msc msZ),.int .i64 14]) ?_ (by rfl) ?_
 ·exact XA (by rfl) _ _ b4 msZ (0,0) (by rfl) (by simp [r4];try rfl) _ (by rfl)
 exact Tz131
set_option maxHeartbeats 4000000 in
theorem rHear_go (i:Nat) (p:Po) (x:Pt) (w:World) (h:Rsd W w c z L en es xs) (hy:L[i]? =some (p,x)) (m:Ms) (rest:List Ms) (hu:x.dn=m::rest) (hq:x.dn.length≤1000) (hus:x.s.2≤1000000000) (han:x.an.length+((hearF c.se c.wa x.s m).2.1).length≤1000):
 Calls Tryz.prog 58 #[.pointer (some ⟨z.sy,0,none⟩),.int .i64 i] w fun r w'=>r=.returned (.tuple #[.agg (msc m),.int .i64 0])∧∃p',RTo W w c z L z (L.set i (p',{x with s:=(hearF c.se c.wa x.s m).1,an:=x.an++(hearF c.se c.wa x.s m).2.1,dn:=rest})) en es xs w':=by
 have rS:=h.sys
 have rQ:=h.ports
 have hi:i<c.co:=by rw [←h.cores];exact (Vg hy).1
 have g0:(0:Int)≤(i:Int):=by omega
 have g1:(i:Int)<(c.co:Int):=by omega
 have HKC:=Vh (show inB (i:Int) c.co=true by unfold inB;simp;omega)
 have HH:=Vh h
 have HY:=Vh hy
 have hk:=h.ok _ (List.mem_of_getElem? hy)
 obtain ⟨s0,up0,an0,dn0⟩:=x
 dsimp only at hu hq hus han
 subst hu
 have hv1:Vof 12 38 Ms.enc w z.po p.db p.dA p.dc (m::rest):=hk.2.2.2
 obtain ⟨hne,o',C',hAe,hb,hin,hp⟩:=hv1.first Ms.len
 have hp':Xq (some (.cells C' 38 (0,0))) o' 12=msc m:=hp
 have hcell:(sq Yz L [])[i*3+2]? =some (.slice (some ⟨p.db,o',none⟩) (rest.length+1) p.dc):=by have:=Qc6 hy 2 (by decide);rw [←hAe];exact this
 have l6:(rest.length:Int)+1≤1000:=by simp at hq;omega
 have l7:(0:Int)<(rest.length:Int)+1:=by omega
 have tl:(((rest.length:Int)+1)==0)=false:=by simp;omega
 have HAE:=Vh hAe
 have HV:=Vh hv1
 have HCELL:=Vh hcell
 have HUS:=Vh hus
 have HAN:=Vh han
 have N4:=Vh (show w.heap.size∉z.all L from fun hm=>by have:=h.old _ hm;omega)
 have C1:=Vh ((Chg.refl [] w).alloc (.cells (msc msZ) 38))
 have r4:(w.alloc (.cells (msc msZ) 38)).heap[w.heap.size]? =some (.cells (msc msZ) 38 (0,0)):=by simp
 replace rS:=C1.out.keep rS Vn
 replace rQ:=C1.out.keep rQ Vn
 replace hb:=C1.out.keep hb Vn
 clear h hy hi hk hp hv1 hne hAe hq hus han
 go_enter Tryz.func58,Tryz.ntmps58
 try dsimp only [List.append]
 go_wp2_with fail
 generalize hb4:w.heap.size=b4 at r4 N4 ⊢
 have HB4:=Vh hb4
 clear hb4
 generalize w.alloc (.cells (msc msZ) 38)=w1 at r4 C1 rS rQ hb ⊢
 have o4:=old r4
 have oS:=old rS
 have oQ:=old rQ
 have ob:=old hb
 go_wp2_with fail
 refine (Xr i true _ (HH.out.keep C1.out) HKC.out).mono ?_
 rintro e w' ⟨rfl,rfl⟩
 go_wp2_with fail
 have r6:(w1.alloc (.cells (msc m) 38)).heap[w1.heap.size]? =some (.cells (msc m) 38 (0,0)):=by simp
 have c2:=(Chg.refl [] w1).alloc (.cells (msc m) 38)
 have C2:=Vh (C1.out.trans c2)
 have N6:=Vh (show w1.heap.size∉z.all L from fun hm=>by have:=HH.out.old _ hm;have:=C1.out.size;omega)
 have N46:=Vh (show b4≠w1.heap.size from by have:=o4.lt;omega)
 have W6:=Vh (show w.heap.size≤w1.heap.size from C1.out.size)
 replace rS:=c2.keep rS Vn
 replace rQ:=c2.keep rQ Vn
 replace r4:=c2.keep r4 Vn
 clear c2 oS oQ o4 ob hb
 generalize w1.heap.size=b6 at r6 N6 N46 W6 ⊢
 generalize w1.alloc (.cells (msc m) 38)=w2 at r6 C2 rS rQ r4 ⊢
 have oS:=old rS
 have oQ:=old rQ
 have o4:=old r4
 have o6:=old r6
 have hsl:=Qct (P:=Tryz.prog) Qbm (some ⟨p.db,o',none⟩) rest.length p.dc Cz26
 clear hcell l7 tl
 have hcell:(sq Yz L [])[i*3+2]? =some (.slice (some ⟨p.db,o',none⟩) (rest.length+1) p.dc):=HCELL.out
 have M2:=Vh (HH.out.stay C2.out)
 go_region
 all_goals
  have c9:Chg [z.po] w2 (w2.setCell ⟨z.po,i*3+2,none⟩ (.slice (Y2 12 (some ⟨p.db,o',none⟩) p.dc) rest.length (p.dc-1))).drew:=((Chg.refl [z.po] w2).setCell _ _ _ (.inl (by simp))).drew
  have r49:=c9.keep r4 (by simp;intro e;exact N4.out Cz12)
  have r69:=c9.keep r6 (by simp;intro e;exact N6.out Cz12)
  obtain ⟨_,p',hpg,hr⟩:=M2.out.1.queue_dn (v:=.bool true) (e:=.returned (.bool true)) (ys:=rest) HY.out ⟨rfl,p.db,Y2 12 (some ⟨p.db,o',none⟩) p.dc,p.dc-1,by simp [rQ],by have h1:=(((HV.out.keep C2.out (by simp)).keepN c9 (by simp)).tail Ms.len);rw [HAE.out] at h1;exact h1,c9.mono Cz18,.inl rfl⟩
  have M9:=Vh (M2.out.trans hr)
  have HY9:=Vh (set_at (y':=(p',({s:=s0,up:=up0,an:=an0,dn:=rest}:Pt))) HY.out)
  have N49:=Vh (show b4∉z.all (L.set i (p',⟨s0,up0,an0,rest⟩)) from fun hm=>by
   rcases hr.2.2 _ hm with h1|h1
   ·exact N4.out h1
   ·have:=o4.lt;omega)
  have N69:=Vh (show b6∉z.all (L.set i (p',⟨s0,up0,an0,rest⟩)) from fun hm=>by
   rcases hr.2.2 _ hm with h1|h1
   ·exact N6.out h1
   ·have:=o6.lt;omega)
  clear hr c9 rS rQ r4 r6 oS oQ o4 o6 hsl hcell hpg
  generalize hL1:L.set i (p',⟨s0,up0,an0,rest⟩)=L1 at M9 HY9 N49 N69
  have HL1:=Vh hL1
  clear hL1
  generalize (w2.setCell ⟨z.po,i*3+2,none⟩ (.slice (Y2 12 (some ⟨p.db,o',none⟩) p.dc) rest.length (p.dc-1))).drew=w9 at r49 r69 M9 ⊢
  have rS:=M9.out.1.sys
  have rA:=M9.out.1.agts
  have hg:(sq Qbc L1 z.ar)[i]? =some (.pointer (some ⟨p'.g,0,none⟩)):=by
   have:=YC Jp HY9.out z.ar 0 (by decide)
   exact Tz88
  have oS:=old rS
  have oA:=old rA
  have o4:=old r49
  have o6:=old r69
  have hag:=fun w' (hc:Chg [] w9 w')=>hhear_any m w' ((M9.out.1.keep hc).ok _ (List.mem_of_getElem? HY9.out)).1 HUS.out
  have HAG:=Vh hag
  have gA0:i<z.ac:=by have:=HH.out.cap.1;omega
  have gA1:(i:Int)<(z.ac:Int):=by omega
  clear hag
  go_wp2_with fail
  have hpa0:∀k∈[p'.a,p'.b],k∈z.all L1∧k∉z.base:=fun k hk=>by
   have h1:=M9.out.1.own HY9.out k (by
    exact Tz132)
   exact ⟨h1.2.2,h1.1⟩
  have KP:∀w',Chg [p'.a,p'.b] w9 w'→w'.heap[z.sy]? =some (.cells (z.enc c).toArray 107 (0,0))∧w'.heap[z.ab]? =some (.cells (sq Qbc L1 z.ar) 127 (0,0))∧w'.heap[b6]? =some (.cells (msc m) 38 (0,0)):=fun w' hc=>⟨hc.keep rS (fun hm=>(hpa0 _ hm).2 (RLay.beB (by simp))),hc.keep rA (fun hm=>(hpa0 _ hm).2 RLay.abB),hc.keep r69 (fun hm=>N69.out (hpa0 _ hm).1)⟩
  have KPH:=Vh KP
  have KD:=KP _ ((Chg.refl [p'.a,p'.b] w9).drew)
  have KDH:=Vh KD
  clear KP KD hpa0
  go_region_held3 (fun w'=>w'.heap[z.sy]? =some (.cells (z.enc c).toArray 107 (0,0))∧w'.heap[z.ab]? =some (.cells (sq Qbc L1 z.ar) 127 (0,0))∧w'.heap[b6]? =some (.cells (msc m) 38 (0,0))) (first |with_reducible exact KDH.out|with_reducible exact KPH.out w3 (Chg.trans ((Chg.refl [p'.a,p'.b] w9).drew) c3)) (first |(go_at_call 117;refine (HAG.out _ ((Chg.refl [] w9).drew)).mono ?_;rintro e w3 ⟨A3,n3,rfl,t3,a3,c3⟩))
  all_goals
   have cd9:=(Chg.refl [] w9).drew
   have m3:=(M9.out.1.keep cd9).agent HY9.out a3 c3
   have HM3:=Vh ((M9.out.trans (M9.out.1.stay cd9)).trans m3)
   have hpa:∀k∈[p'.a,p'.b],k∈z.all L1:=fun k hk=>(M9.out.1.own HY9.out k (by
    exact Tz132)).2.2
   have r43:=c3.keep (cd9.keep r49 Vn) (fun hm=>N49.out (hpa _ hm))
   have r63:=c3.keep (cd9.keep r69 Vn) (fun hm=>N69.out (hpa _ hm))
   have HY3:=Vh (set_at (y':=(p',({s:=(hearF c.se c.wa s0 m).1,up:=up0,an:=an0,dn:=rest}:Pt))) HY9.out)
   have N43:=Vh (show b4∉z.all (L1.set i (p',⟨(hearF c.se c.wa s0 m).1,up0,an0,rest⟩)) from fun hm=>by
    rcases m3.2.2 _ hm with h1|h1
    ·exact N49.out h1
    ·have h2:=o4.lt;have h3:w9.heap.size≤b4:=h1;omega)
   have N63:=Vh (show b6∉z.all (L1.set i (p',⟨(hearF c.se c.wa s0 m).1,up0,an0,rest⟩)) from fun hm=>by
    rcases m3.2.2 _ hm with h1|h1
    ·exact N69.out h1
    ·have h2:=o6.lt;have h3:w9.heap.size≤b6:=h1;omega)
   have T3:=Vh t3.1
   clear m3 cd9 hpa r49 r69 rS rA hg oS oA o4 o6 t3 a3 c3
   generalize hL2:L1.set i (p',⟨(hearF c.se c.wa s0 m).1,up0,an0,rest⟩)=L3 at HM3 HY3 N43 N63
   have HL2:=Vh hL2
   clear hL2
   obtain ⟨av,hav⟩:∃av,(hearF c.se c.wa s0 m).2.1=av:=⟨_,rfl⟩
   rw [hav] at T3 ⊢
   have HAV:=Vh hav
   have HAN2:=Vh (show an0.length+av.length≤1000 by have:=HAN.out;rw [hav] at this;exact this)
   have hk3:=HM3.out.1.ok _ (List.mem_of_getElem? HY3.out)
   have rS:=HM3.out.1.sys
   have rQ:=HM3.out.1.ports
   have hcell:(sq Yz L3 [])[i*3+1]? =some (.slice p'.nA an0.length p'.nc):=Qc6 HY3.out 1 (by decide)
   have ca:=(Chg.refl [] w3).drew
   have oq:=old rQ
   have nsy:=(HM3.out.1.qne HY3.out (k:=z.sy) (RLay.beB (by simp)) HM3.out.1.ne6.1.2.2.2.1).2.1
   have hv1:Vof 12 38 Ms.enc w3 z.po p'.nb p'.nA p'.nc an0:=hk3.2.2.1
   have nba:p'.nb∈z.all L3:=by
    by_cases hb:p'.nb=z.po
    ·rw [hb];exact RLay.inB (RLay.beB (by simp))
    ·exact (HM3.out.1.own HY3.out _ (by simp [Po.foot,ZX,hb])).2.2
   have poa:z.po∈z.all L3:=RLay.inB (RLay.beB (by simp))
   obtain ⟨be',cap',A',w4,happ,hv2,hbe,hc2,hqq⟩:=(hv1.keep ca (by simp)).app (ty:=61) Qbm (oq.chg ca) (T3.out.chg ca (by simp)) (c:=n3) rfl (by have:=HAN2.out;omega) (by unfold maxLen;have:=HAN2.out;omega)
   have HV2:=Vh hv2
   have HB:=Vh hbe
   have HC2:=Vh hc2
   have hq2:w4.heap[z.po]? =some (.cells (sq Yz L3 []) 121 (0,0)):=by rw [hqq];exact ca.keep rQ (by simp)
   have HQ2:=Vh hq2
   have rS3:=hc2.keep (ca.keep rS (by simp)) (by simpa using nsy)
   have NBA:=Vh nba
   have POA:=Vh poa
   have R43:=Vh r43
   have R63:=Vh r63
   have HCELL3:=Vh hcell
   have oS:=old rS
   clear hk3 hv1 nsy hv2 hbe hc2 hqq ca hav nba poa r43 r63
   go_wp2_with fail
   go_region
   all_goals
    have C9:Chg [z.po,p'.nb] w3 (w4.setCell ⟨z.po,i*3+1,none⟩ (.slice A' (an0.length+av.length) cap')):=((((Chg.refl [] w3).drew).mono (l':=[z.po,p'.nb]) (by simp)).trans' HC2.out (by simp)).setCell _ _ _ (.inl (by simp))
    obtain ⟨_,p2,_,hr⟩:=HM3.out.1.queue_an (v:=.bool true) (e:=.returned (.bool true)) (ys:=an0++av) HY3.out ⟨rfl,be',A',cap',by rw [show (an0++av).length=an0.length+av.length from List.length_append];simp [hq2],HV2.out.keepN ((Chg.refl [z.po] w4).setCell _ _ _ (.inl (by simp))) (by simp),C9,HB.out⟩
    have M4:=Vh (HM3.out.trans hr)
    have hpn:∀k∈[z.po,p'.nb],k∈z.all L3:=fun k hk=>by
     simp only [List.mem_cons,Vn,or_false] at hk
     rcases hk with h5|h5
     ·rw [h5];exact POA.out
     ·rw [h5];exact NBA.out
    have r4:=C9.keep R43.out (fun hm=>N43.out (hpn _ hm))
    have r6:=C9.keep R63.out (fun hm=>N63.out (hpn _ hm))
    have N45:=Vh (show b4∉z.all (L3.set i (p2,⟨(hearF c.se c.wa s0 m).1,up0,an0++av,rest⟩)) from fun hm=>by
     rcases hr.2.2 _ hm with h1|h1
     ·exact N43.out h1
     ·have:=ZS R43.out;omega)
    clear C9 hr hpn rS rQ hcell happ hq2 rS3 oS oq
    generalize (w4.setCell ⟨z.po,i*3+1,none⟩ (.slice A' (an0.length+av.length) cap'))=w5 at M4 r4 r6 ⊢
    have o4:=old r4
    have o6:=old r6
    go_wp2_with fail
    have hb9:Z7 (w5.heap[b4]?) 0 (msc m).size=true:=by rw [r4,Qd,Qv,Qv];rfl
    refine bodyPost_ret (v:=.tuple #[.agg (msc m),.int .i64 0]) ?_ (by rfl) ?_
    ·exact XA (by rfl) _ _ b4 m (0,0) (by rfl) (by first |(rw [Qb _ _ _ _ _ hb9,if_pos rfl,r4];exact Qe _ _ _ _ (by rw [Qv,Qv]))|(simp [r4];try rfl)) _ (by rfl)
    ·have hw:w.heap.size≤b4:=by have:=HB4.out;omega
     have hf:=M4.out.wrap (w6:=putRow w5 b4 0 (msc m)) ((Chg.refl [b4] w5).putRow _ _ _ (.inl (by simp))) (by intro k hk;rw [List.mem_singleton] at hk;subst hk;exact ⟨N45.out,hw⟩) HH.out.chg.size
     rw [←HL2.out,List.set_set,←HL1.out,List.set_set] at hf
     rw [←HAV.out] at hf
     exact ⟨rfl,p2,hf⟩
end
end
section
def RMS (W w:World) (c:Cg) (sy:Nat) (F:List Nat) (S:Mst):Prop:=∃z L,z.sy=sy∧z.all L=F∧ports L=S.ps∧Rsd W w c z L S.en S.es S.xs
def RMTS (W w:World) (c:Cg) (sy:Nat) (F:List Nat) (S:Mst) (w':World):Prop:=∃F',RMS W w' c sy F' S∧Chg F w w'∧∀k∈F',k∈F∨w.heap.size≤k
theorem RMTS.of {W w w':World} {c:Cg} {z z':RLay} {L L':List (Po×Pt)} {S:Mst} (h:RTo W w c z L z' L' S.en S.es S.xs w') (hs:z'.sy=z.sy) (hp:ports L'=S.ps):RMTS W w c z.sy (z.all L) S w':=
 ⟨z'.all L',⟨z',L',hs,rfl,hp,h.1⟩,h.2.1,h.2.2⟩
section
variable {W w:World} {c:Cg} {sy n:Nat} {F:List Nat} {S:Mst} {cur:Nat→List Int} (hm:RMS W w c sy F S) (hI:Inv c n S cur)
include hm
theorem RMS.same {w':World} (hc:Chg [] w w'):RMTS W w c sy F S w':=by
 obtain ⟨z,L,rfl,rfl,hps,h⟩:=hm
 exact RMTS.of (h.stay hc) rfl hps
theorem RMS.keepL {w':World} {l:List Nat} (hc:Chg l w w') (hl:∀k∈l,k∉F) (hw:∀k∈l,W.heap.size≤k):RMS W w' c sy F S:=by
 obtain ⟨z,L,h1,rfl,h3,h⟩:=hm
 exact ⟨z,L,h1,rfl,h3,h.keepL hc hl hw⟩
theorem RMS.old:∀k∈F,k<w.heap.size:=by obtain ⟨z,L,_,rfl,_,h⟩:=hm;exact h.old
theorem RMS.new:∀k∈F,W.heap.size≤k:=by obtain ⟨z,L,_,rfl,_,h⟩:=hm;exact h.new
theorem RMS.chg:Chg [] W w:=by obtain ⟨z,L,_,_,_,h⟩:=hm;exact h.chg
include hI
theorem rload9 (hn:n≤900) (hT:Tabs W) (k li wd:Int):
 Calls Tryz.prog 52 #[.pointer (some ⟨sy,0,none⟩),.int .i64 k,.int .i64 li,.int .i64 wd] w fun e w'=>e=.returned (.agg #[.int .u64 (loadM c S k li wd).2.v,.bool (loadM c S k li wd).2.hit])∧RMTS W w c sy F (loadM c S k li wd).1 w':=by
 unfold loadM
 obtain ⟨z,L,rfl,rfl,hps,h⟩:=id hm
 cases hp:XL c S k with
 |none=>exact (rload_no k li wd w h (hI.portNone hp)).mono fun e w' h=>⟨h.1,RMS.same hm h.2⟩
 |some x=>
  obtain ⟨j,rfl,hj,hx,_,hP,_⟩:=hI.port hp
  have hus:x.s.2≤1000000000:=by have:=hP.us;omega
  have hq:x.up.length<1000:=by have:=hP.up;omega
  have h64:=hI.ok.li64
  have hjb:inB (j:Int) c.co=true:=XW.2 ⟨by omega,by omega⟩
  have hx':=hx
  rw [←hps] at hx'
  obtain ⟨p,hy⟩:=XC hx'
  dsimp only
  by_cases hl:inB li c.li=true
  ·rw [if_pos hl]
   obtain ⟨_,b,_⟩:=hP.aj.loadF (XW.1 hl).2 wd
   exact (rload_ok j li wd p x w h hy hl hus (by omega) (b.msgs h64).1).mono fun e w' ⟨he,p',M⟩=>⟨he,RMTS.of M rfl Cz23⟩
  ·rw [if_neg hl]
   exact (rload_off j li wd w h hjb (by simpa using hl)).mono fun e w' h=>⟨h.1,RMS.same hm h.2⟩
theorem rstore9 (hn:n≤900) (hT:Tabs W) (k li wd v:Int):
 Calls Tryz.prog 53 #[.pointer (some ⟨sy,0,none⟩),.int .i64 k,.int .i64 li,.int .i64 wd,.int .u64 v] w fun e w'=>e=.returned (.bool (storeM c S k li wd v).2.hit)∧RMTS W w c sy F (storeM c S k li wd v).1 w':=by
 unfold storeM
 obtain ⟨z,L,rfl,rfl,hps,h⟩:=id hm
 cases hp:XL c S k with
 |none=>exact (rstore_no k li wd v w h (hI.portNone hp)).mono fun e w' h=>⟨h.1,RMS.same hm h.2⟩
 |some x=>
  obtain ⟨j,rfl,hj,hx,_,hP,_⟩:=hI.port hp
  have hus:x.s.2≤1000000000:=by have:=hP.us;omega
  have hq:x.up.length<1000:=by have:=hP.up;omega
  have h64:=hI.ok.li64
  have hjb:inB (j:Int) c.co=true:=XW.2 ⟨by omega,by omega⟩
  have hx':=hx
  rw [←hps] at hx'
  obtain ⟨p,hy⟩:=XC hx'
  dsimp only
  by_cases hl:inB li c.li=true
  ·rw [if_pos hl]
   have hms:(storeF c.se c.wa x.s li wd v).2.2.length≤1:=by
    obtain ⟨_,⟨_,_,_,_,b4,_,_⟩|⟨_,b2⟩⟩:=hP.aj.storeF (XW.1 hl).2 wd v
    ·rw [b4];exact Nat.zero_le _
    ·exact (b2.msgs h64).1
   exact (rstore_ok j li wd v p x w h hy hl hus (by omega) hms).mono fun e w' ⟨he,p',M⟩=>⟨he,RMTS.of M rfl Cz23⟩
  ·rw [if_neg hl]
   exact (rstore_off j li wd v w h hjb (by simpa using hl)).mono fun e w' h=>⟨h.1,RMS.same hm h.2⟩
theorem rreach9 (hn:n≤900) (hT:Tabs W) (k li:Int):
 Calls Tryz.prog 54 #[.pointer (some ⟨sy,0,none⟩),.int .i64 k,.int .i64 li] w fun e w'=>e=.returned (.bool (reachM c S k li).2.hit)∧RMTS W w c sy F (reachM c S k li).1 w':=by
 unfold reachM
 obtain ⟨z,L,rfl,rfl,hps,h⟩:=id hm
 cases hp:XL c S k with
 |none=>exact (rreach_no k li w h (hI.portNone hp)).mono fun e w' h=>⟨h.1,RMS.same hm h.2⟩
 |some x=>
  obtain ⟨j,rfl,hj,hx,_,hP,_⟩:=hI.port hp
  have hus:x.s.2≤1000000000:=by have:=hP.us;omega
  have hq:x.up.length<1000:=by have:=hP.up;omega
  have h64:=hI.ok.li64
  have hjb:inB (j:Int) c.co=true:=XW.2 ⟨by omega,by omega⟩
  have hx':=hx
  rw [←hps] at hx'
  obtain ⟨p,hy⟩:=XC hx'
  dsimp only
  by_cases hl:inB li c.li=true
  ·rw [if_pos hl]
   by_cases ho:JN x.s.1 li=true
   ·rw [if_pos ho]
    exact (rreach_own j li p x w h hy hl ho).mono fun e w' h=>⟨h.1,RMS.same hm h.2⟩
   ·rw [if_neg ho]
    obtain ⟨_,b⟩:=hP.aj.reachF (XW.1 hl).2
    exact (rreach_ok j li p x w h hy hl (by simpa using ho) hus (by omega) (b.msgs h64).1).mono fun e w' ⟨he,p',M⟩=>⟨he,RMTS.of M rfl Cz23⟩
  ·rw [if_neg hl]
   exact (rreach_off j li w h hjb (by simpa using hl)).mono fun e w' h=>⟨h.1,RMS.same hm h.2⟩
theorem revict9 (hn:n≤900) (hT:Tabs W) (k li:Int):
 Calls Tryz.prog 60 #[.pointer (some ⟨sy,0,none⟩),.int .i64 k,.int .i64 li] w fun e w'=>e=.returned (.int .i64 (evictM c S k li).2.e)∧RMTS W w c sy F (evictM c S k li).1 w':=by
 unfold evictM
 obtain ⟨z,L,rfl,rfl,hps,h⟩:=id hm
 cases hp:XL c S k with
 |none=>exact (revict_no k li w h (hI.portNone hp)).mono fun e w' h=>⟨h.1,RMS.same hm h.2⟩
 |some x=>
  obtain ⟨j,rfl,hj,hx,_,hP,_⟩:=hI.port hp
  have hus:x.s.2≤1000000000:=by have:=hP.us;omega
  have hq:x.up.length<1000:=by have:=hP.up;omega
  have h64:=hI.ok.li64
  have hjb:inB (j:Int) c.co=true:=XW.2 ⟨by omega,by omega⟩
  have hx':=hx
  rw [←hps] at hx'
  obtain ⟨p,hy⟩:=XC hx'
  dsimp only
  by_cases hl:inB li c.li=true
  ·rw [if_pos hl]
   obtain ⟨_,b⟩:=hP.aj.evictF li
   exact (revict_ok j li p x w h hy hl hus (by omega) (b.msgs h64).1).mono fun e w' ⟨he,p',M⟩=>⟨he,RMTS.of M rfl Cz23⟩
  ·rw [if_neg hl]
   exact (revict_off j li w h hjb (by simpa using hl)).mono fun e w' h=>⟨h.1,RMS.same hm h.2⟩
theorem rflush9 (hn:n≤900) (hT:Tabs W) (k li kd:Int) (hk:kd=4∨kd=5):
 Calls Tryz.prog 55 #[.pointer (some ⟨sy,0,none⟩),.int .i64 k,.int .i64 li,.int .i64 kd] w fun e w'=>e=.returned (.int .i64 (flushM c S k li kd).2.e)∧RMTS W w c sy F (flushM c S k li kd).1 w':=by
 unfold flushM
 obtain ⟨z,L,rfl,rfl,hps,h⟩:=id hm
 cases hp:XL c S k with
 |none=>exact (rflush_no k li kd w h (hI.portNone hp)).mono fun e w' h=>⟨h.1,RMS.same hm h.2⟩
 |some x=>
  obtain ⟨j,rfl,hj,hx,_,hP,_⟩:=hI.port hp
  have hus:x.s.2≤1000000000:=by have:=hP.us;omega
  have hq:x.up.length<1000:=by have:=hP.up;omega
  have h64:=hI.ok.li64
  have hjb:inB (j:Int) c.co=true:=XW.2 ⟨by omega,by omega⟩
  have hx':=hx
  rw [←hps] at hx'
  obtain ⟨p,hy⟩:=XC hx'
  dsimp only
  by_cases hl:inB li c.li=true
  ·rw [if_pos ⟨hl,hk⟩]
   rcases hk with rfl|rfl
   ·exact (rflush_4 j li p x w h hy hl hq).mono fun e w' ⟨he,p',M⟩=>⟨he,RMTS.of M rfl Cz23⟩
   ·exact (rflush_5 j li p x w h hy hl hq).mono fun e w' ⟨he,p',M⟩=>⟨he,RMTS.of M rfl Cz23⟩
  ·rw [if_neg (fun h=>hl h.1)]
   exact (rflush_off j li kd w h hjb (by simpa using hl)).mono fun e w' h=>⟨h.1,RMS.same hm h.2⟩
theorem rup9 (hn:n≤900) (hT:Tabs W) (k:Int):
 Calls Tryz.prog 56 #[.pointer (some ⟨sy,0,none⟩),.int .i64 k] w fun e w'=>e=.returned (.int .i64 (upM c S k).2.e)∧RMTS W w c sy F (upM c S k).1 w':=by
 unfold upM
 obtain ⟨z,L,rfl,rfl,hps,h⟩:=id hm
 cases hp:XL c S k with
 |none=>exact (rUp_no k w h (hI.portNone hp)).mono fun e w' h=>⟨h.1,RMS.same hm h.2⟩
 |some x=>
  obtain ⟨j,rfl,hj,hx,_,hP,_⟩:=hI.port hp
  have hus:x.s.2≤1000000000:=by have:=hP.us;omega
  have hq:x.up.length<1000:=by have:=hP.up;omega
  have h64:=hI.ok.li64
  have hjb:inB (j:Int) c.co=true:=XW.2 ⟨by omega,by omega⟩
  have hx':=hx
  rw [←hps] at hx'
  obtain ⟨p,hy⟩:=XC hx'
  dsimp only
  cases hu:x.up with
  |nil=>exact (rUp_nil j p x w h hy hu).mono fun e w' h=>⟨h.1,RMS.same hm h.2⟩
  |cons m rest=>
   obtain ⟨i,e,hi,hic,he,hc⟩:=hI.up hj hx hu
   have ei:i=m.li.toNat:=by omega
   subst ei
   dsimp only
   rw [he]
   dsimp only
   have hX:ln (over S.xs S.es) m.li.toNat=lnG S.X m.li.toNat:=(lnG_eq (hI.ln8 hic)).symm
   rcases hc with ⟨h1,h2⟩|⟨h1,o,a,e',h2,h3,h4,_⟩
   ·rw [h2,if_neg (by decide)]
    exact (rUp_busy j p x w h hy m rest m.li.toNat e hu hi he (by omega) h1).mono fun r w' h=>⟨h.1,RMS.same hm h.2⟩
   ·rw [h2,if_pos rfl]
    have hto:=Qfq h4 h3.1
    have hM:∀y∈ports L,y.dn.length≤n:=by rw [hps];exact hI.dnB
    have hg:Calls Tryz.prog 56 #[.pointer (some ⟨z.sy,0,none⟩),.int .i64 (j:Int)] w fun r w'=>r=.returned (.int .i64 0)∧∃z' L',z'.sy=z.sy∧RTo W w c z L z' L' (S.en.set m.li.toNat e') S.es S.xs w'∧ports L'=XY ((ports L).set j {x with up:=rest}) (Xf o a):=by
     cases hhe:e.he
     ·exact rUp_go_false j p x w h hy m rest m.li.toNat e hu hi he (by omega) (lnG S.X m.li.toNat) (Qai _ _) (e',Xf o a) h1 hX h2 hT.1.old0 hto n hM (by have:=Qb9 o a;show n+(Xf o a).length≤1000;omega) hhe
     ·exact rUp_go_true j p x w h hy m rest m.li.toNat e hu hi he (by omega) (lnG S.X m.li.toNat) (Qai _ _) (e',Xf o a) h1 hX h2 hT.1.old0 hto n hM (by have:=Qb9 o a;show n+(Xf o a).length≤1000;omega) hhe
    exact hg.mono fun r w' ⟨he,z',L',hs,M,hpp⟩=>⟨he,RMTS.of M hs (by rw [hpp,hps];rfl)⟩
theorem ranswer9 (hn:n≤900) (hT:Tabs W) (k:Int):
 Calls Tryz.prog 57 #[.pointer (some ⟨sy,0,none⟩),.int .i64 k] w fun e w'=>e=.returned (.int .i64 (answerM c S k).2.e)∧RMTS W w c sy F (answerM c S k).1 w':=by
 unfold answerM
 obtain ⟨z,L,rfl,rfl,hps,h⟩:=id hm
 cases hp:XL c S k with
 |none=>exact (rAnswer_no k w h (hI.portNone hp)).mono fun e w' h=>⟨h.1,RMS.same hm h.2⟩
 |some x=>
  obtain ⟨j,rfl,hj,hx,_,hP,_⟩:=hI.port hp
  have hus:x.s.2≤1000000000:=by have:=hP.us;omega
  have hq:x.up.length<1000:=by have:=hP.up;omega
  have h64:=hI.ok.li64
  have hjb:inB (j:Int) c.co=true:=XW.2 ⟨by omega,by omega⟩
  have hx':=hx
  rw [←hps] at hx'
  obtain ⟨p,hy⟩:=XC hx'
  dsimp only
  cases hu:x.an with
  |nil=>exact (rAnswer_nil j p x w h hy hu).mono fun e w' h=>⟨h.1,RMS.same hm h.2⟩
  |cons m rest=>
   obtain ⟨i,e,hi,hic,he,o,a,e',h2,h3,h4,_⟩:=hI.answer hj hx hu
   have ei:i=m.li.toNat:=by omega
   subst ei
   dsimp only
   rw [he]
   dsimp only
   rw [h2,if_pos rfl]
   exact (rAnswer_go j p x w h hy m rest m.li.toNat e hu hi he (by have:=hP.an;omega) (e',Xf o a) h2 (Qfq h4 h3.1) n (by rw [hps];exact hI.dnB) (by have:=Qb9 o a;show n+(Xf o a).length≤1000;omega)).mono fun r w' ⟨he,z',L',hs,M,hpp⟩=>⟨he,RMTS.of M hs (by rw [hpp,hps];rfl)⟩
theorem rhear9 (hn:n≤900) (hT:Tabs W) (k:Int):
 Calls Tryz.prog 58 #[.pointer (some ⟨sy,0,none⟩),.int .i64 k] w fun e w'=>e=.returned (.tuple #[.agg (msc (hearM c S k).2.m),.int .i64 (hearM c S k).2.e])∧RMTS W w c sy F (hearM c S k).1 w':=by
 unfold hearM
 obtain ⟨z,L,rfl,rfl,hps,h⟩:=id hm
 cases hp:XL c S k with
 |none=>exact (rHear_no k w h (hI.portNone hp)).mono fun e w' h=>⟨h.1,RMS.same hm h.2⟩
 |some x=>
  obtain ⟨j,rfl,hj,hx,_,hP,_⟩:=hI.port hp
  have hus:x.s.2≤1000000000:=by have:=hP.us;omega
  have hq:x.up.length<1000:=by have:=hP.up;omega
  have h64:=hI.ok.li64
  have hjb:inB (j:Int) c.co=true:=XW.2 ⟨by omega,by omega⟩
  have hx':=hx
  rw [←hps] at hx'
  obtain ⟨p,hy⟩:=XC hx'
  dsimp only
  cases hu:x.dn with
  |nil=>exact (rHear_nil j p x w h hy hu).mono fun e w' h=>⟨h.1,RMS.same hm h.2⟩
  |cons m rest=>
   obtain ⟨_,h2,h3,h4,_⟩:=hI.hear hj hx hu
   dsimp only
   rw [if_pos h2]
   exact (rHear_go j p x w h hy m rest hu (by have:=hP.dn;omega) hus (by have:=hP.an;omega)).mono fun r w' ⟨he,p',M⟩=>⟨he,RMTS.of M rfl Cz23⟩
theorem rpush9 (hn:n≤900) (li:Int):
 Calls Tryz.prog 59 #[.pointer (some ⟨sy,0,none⟩),.int .i64 li] w fun e w'=>e=.returned (.int .i64 (pushM c S li).2.e)∧RMTS W w c sy F (pushM c S li).1 w':=by
 unfold pushM
 obtain ⟨z,L,rfl,rfl,hps,h⟩:=id hm
 by_cases hl:inB li c.li=true
 ·rw [if_pos hl]
  obtain ⟨l0,ln⟩:=XW.1 hl
  obtain ⟨i,rfl⟩:∃i:Nat,li=(i:Int):=⟨li.toNat,by omega⟩
  rw [Int.toNat_natCast]
  have hic:i<c.li:=by omega
  obtain ⟨e,he,_⟩:=hI.entry hic
  rw [he]
  dsimp only
  by_cases hr:Yb e=true
  ·rw [if_pos hr]
   obtain ⟨p1,p2,p3,_⟩:=hI.push hic he hr
   have hM:∀y∈ports L,y.dn.length≤n:=by rw [hps];exact hI.dnB
   cases hdi:e.di
   ·have e1:YX c S.es i e=0:=by unfold YX;rw [if_neg (by rw [hdi];decide)]
    have e2:Ya c S.es i e=S.es:=by unfold Ya;rw [if_neg (by rw [hdi];decide)]
    rw [e1,e2,if_pos rfl]
    exact (rPush_clean i e w h he hr p2 p3 hdi n hM (by omega)).mono fun r w' ⟨he,z',L',hs,M,hpp⟩=>⟨he,RMTS.of M hs (by rw [hpp,hps,YB p1])⟩
   ·have e1:YX c S.es i e=Yt c.li c.qu S.es i:=by unfold YX;rw [if_pos hdi]
    have e2:Ya c S.es i e=Qap c.li c.qu S.es i e.l e.h:=by unfold Ya;rw [if_pos hdi]
    rw [e1,e2]
    have hg:=rPush_dirty i e w h he hr p2 p3 hdi (Yt c.li c.qu S.es i) rfl (Qap c.li c.qu S.es i e.l e.h) rfl n hM (by omega)
    by_cases hv:Yt c.li c.qu S.es i=0
    ·rw [if_pos hv]
     refine hg.mono fun r w' h=>?_
     rcases h with ⟨q1,_⟩|⟨_,q2,z',L',hs,M,hpp⟩
     ·exact absurd hv q1
     ·exact ⟨q2,RMTS.of M hs (by rw [hpp,hps,YB p1])⟩
    ·rw [if_neg hv]
     refine hg.mono fun r w' h=>?_
     rcases h with ⟨_,q2,be',M⟩|⟨q1,_⟩
     ·exact ⟨q2,RMTS.of M rfl hps⟩
     ·exact absurd q1 hv
  ·rw [if_neg hr]
   exact (rPush_not i e w h he (by simpa using hr)).mono fun e w' h=>⟨h.1,RMS.same hm h.2⟩
 ·rw [if_neg hl]
  exact (rPush_off li w h (by simpa using hl)).mono fun e w' h=>⟨h.1,RMS.same hm h.2⟩
theorem rdrop9 (hn:n≤900) (li:Int):
 Calls Tryz.prog 61 #[.pointer (some ⟨sy,0,none⟩),.int .i64 li] w fun e w'=>e=.returned (.int .i64 (dropM c S li).2.e)∧RMTS W w c sy F (dropM c S li).1 w':=by
 unfold dropM
 obtain ⟨z,L,rfl,rfl,hps,h⟩:=id hm
 by_cases hl:inB li c.li=true
 ·rw [if_pos hl]
  obtain ⟨l0,ln⟩:=XW.1 hl
  obtain ⟨i,rfl⟩:∃i:Nat,li=(i:Int):=⟨li.toNat,by omega⟩
  rw [Int.toNat_natCast]
  have hic:i<c.li:=by omega
  obtain ⟨e,he,_⟩:=hI.entry hic
  rw [he]
  dsimp only
  by_cases hr:Jt e=true
  ·rw [if_pos hr]
   exact (rDrop_kept i e w h he hr).mono fun e w' h=>⟨h.1,RMS.same hm h.2⟩
  ·rw [if_neg hr]
   cases hdi:e.di
   ·have e1:YX c S.es i e=0:=by unfold YX;rw [if_neg (by rw [hdi];decide)]
    have e2:Ya c S.es i e=S.es:=by unfold Ya;rw [if_neg (by rw [hdi];decide)]
    rw [e1,e2,if_pos rfl]
    exact (rDrop_clean i e w h he (by simpa using hr) hdi).mono fun r w' ⟨he,M⟩=>⟨he,RMTS.of M rfl hps⟩
   ·have e1:YX c S.es i e=Yt c.li c.qu S.es i:=by unfold YX;rw [if_pos hdi]
    have e2:Ya c S.es i e=Qap c.li c.qu S.es i e.l e.h:=by unfold Ya;rw [if_pos hdi]
    rw [e1,e2]
    have hg:=rDrop_dirty i e w h he (by simpa using hr) hdi (Yt c.li c.qu S.es i) rfl (Qap c.li c.qu S.es i e.l e.h) rfl
    by_cases hv:Yt c.li c.qu S.es i=0
    ·rw [if_pos hv]
     refine hg.mono fun r w' h=>?_
     rcases h with ⟨q1,_⟩|⟨_,q2,be',M⟩
     ·exact absurd hv q1
     ·exact ⟨q2,RMTS.of M rfl hps⟩
    ·rw [if_neg hv]
     refine hg.mono fun r w' h=>?_
     rcases h with ⟨_,q2,be',M⟩|⟨q1,_⟩
     ·exact ⟨q2,RMTS.of M rfl hps⟩
     ·exact absurd q1 hv
 ·rw [if_neg hl]
  exact (rDrop_off li w h (by simpa using hl)).mono fun e w' h=>⟨h.1,RMS.same hm h.2⟩
theorem rdrain9 (hn:n≤900) (li:Int):
 Calls Tryz.prog 62 #[.pointer (some ⟨sy,0,none⟩),.int .i64 li] w fun e w'=>e=.returned (.int .i64 (drainM c S li).2.e)∧RMTS W w c sy F (drainM c S li).1 w':=by
 have _:=hI
 unfold drainM
 obtain ⟨z,L,rfl,rfl,hps,h⟩:=id hm
 by_cases hl:inB li c.li=true
 ·rw [if_pos hl]
  exact (rDrain_ok li w h hl).mono fun r w' ⟨he,be',M⟩=>⟨he,RMTS.of M rfl hps⟩
 ·rw [if_neg hl]
  exact (rDrain_off li w h (by simpa using hl)).mono fun e w' h=>⟨h.1,RMS.same hm h.2⟩
end
end
section
theorem eltEr:Elt Tryz.prog 103 117 15 112 (.agg (ec enZ)) En.enc where
 slice:=Tryz.underlying103
 info:=by kernel_rfl
 zero:=by kernel_rfl
 zone:=by intro v hv;exact En.one enZ v (by simpa [Value.cells,ec] using hv)
 pos:=by omega
 len:=En.len
 one:=En.one
def tenc (y:Trip):List Value:=[.pointer (some ⟨y.1,0,none⟩)]
theorem tenc_len (y:Trip):(tenc y).length=1:=rfl
theorem eltAg:Elt Tryz.prog 104 127 1 8 (.pointer none) tenc where
 slice:=Tryz.underlying104
 info:=by kernel_rfl
 zero:=rfl
 zone:=by intro v hv;simp [Value.cells] at hv;subst hv;rfl
 pos:=by omega
 len:=tenc_len
 one:=by intro a v hv;simp [tenc] at hv;subst hv;rfl
def rqz (_:Unit):List Value:=[.slice none 0 0,.slice none 0 0,.slice none 0 0]
theorem rqz_len (o:Unit):(rqz o).length=3:=rfl
theorem rqueues_info:(Tryz.prog.info? 121).map (fun i=>(i.zero,i.size,i.bytes))=some (some (.agg (rqz ()).toArray),3,72):=by kernel_rfl
theorem Qgc (w:World) (n:Nat) (hn:n≤64):mkR Tryz.prog 105 (.int .i64 n) (.int .i64 n) w=.ok (.slice (some ⟨w.heap.size,0,none⟩) n n) (w.alloc (.cells (sq rqz (List.replicate n ()) []) 121)):=by
 obtain ⟨i0,hi0,hz0,hz1,hz2⟩:=info_parts rqueues_info
 have:=run_make (P:=Tryz.prog) w 105 121 i0 _ Tryz.underlying105 hi0 hz0 .i64 .i64 n n (by omega) (by omega) (by rw [hz2];omega) (by omega)
 simp only [Int.toNat_natCast,hz1] at this
 rw [←made_sq rqz_len (by decide)]
 exact this
def rsc (c:Cg) (q:Nat) (a b d:Value):Array Value:=(c.enc++[.pointer (some ⟨q,0,none⟩),a,b,d]).toArray
theorem rsc_0 (c:Cg) (q:Nat) (a b d:Value):(rsc c q a b d)[0]? =some (.int .i64 c.co):=rfl
theorem rsc_1 (c:Cg) (q:Nat) (a b d:Value):(rsc c q a b d)[1]? =some (.int .i64 c.li):=rfl
theorem rsc_3 (c:Cg) (q:Nat) (a b d:Value):(rsc c q a b d)[3]? =some (.int .i64 c.se):=rfl
theorem rsc_4 (c:Cg) (q:Nat) (a b d:Value):(rsc c q a b d)[4]? =some (.int .i64 c.wa):=rfl
theorem rsc_7 (c:Cg) (q:Nat) (a b d:Value):(rsc c q a b d)[7]? =some (.pointer (some ⟨q,0,none⟩)):=rfl
theorem rsc_8 (c:Cg) (q:Nat) (a b d:Value):(rsc c q a b d)[8]? =some a:=rfl
theorem rsc_9 (c:Cg) (q:Nat) (a b d:Value):(rsc c q a b d)[9]? =some b:=rfl
theorem rsc_10 (c:Cg) (q:Nat) (a b d:Value):(rsc c q a b d)[10]? =some d:=rfl
theorem rsc_s8 (c:Cg) (q:Nat) (a b d v:Value):(rsc c q a b d).setIfInBounds 8 v=rsc c q v b d:=rfl
theorem rsc_s9 (c:Cg) (q:Nat) (a b d v:Value):(rsc c q a b d).setIfInBounds 9 v=rsc c q a v d:=rfl
theorem Qet (c:Cg) (q:Nat) (a b d v:Value):(rsc c q a b d).setIfInBounds 10 v=rsc c q a b v:=rfl
theorem Qdv (c:Cg) (q:Nat) (a b d:Value):(rsc c q a b d).size=11:=rfl
theorem cat_const {α β:Type} (f:α→List Value) (g:β→List Value) (x:List Value) (hf:∀a,f a=x) (hg:∀b,g b=x):∀(as':List α) (bs:List β),as'.length=bs.length→cat f as'=cat g bs
 |[],[],_=>rfl
 |a::as',b::bs,h=>by rw [Yw,Yw,hf,hg,cat_const f g x hf hg as' bs (by simpa using h)]
 |[],_::_,h=>by simp at h
 |_::_,[],h=>by simp at h
theorem portsOf_rq (po:Nat) (c:Cg) (gs:List Trip) (n:Nat) (h:gs.length=n):sq rqz (List.replicate n ()) []=sq Yz (YP po c gs) []:=by
 unfold sq YP
 rw [cat_map]
 rw [cat_const rqz (fun a:Trip=>Yz (mkPo po a,pt0 c)) (rqz ()) (fun _=>rfl) (fun _=>rfl) _ gs (by simp [h])]
theorem portsOf_ra (po:Nat) (c:Cg) (gs:List Trip) (r:List Value):sq tenc gs r=sq Qbc (YP po c gs) r:=by
 unfold sq YP
 rw [cat_map]
 rfl
def RFresh (W w:World) (c:Cg) (sy q:Nat) (w':World):Prop:=
 ∃(en ec:Nat) (er:List Value) (ab ac:Nat) (ar:List Value) (po:Nat) (L:List (Po×Pt)),w'.heap[sy]? =some (.cells (rsc c q (.slice (some ⟨en,0,none⟩) c.li ec) (.slice (some ⟨ab,0,none⟩) c.co ac) (.slice (some ⟨po,0,none⟩) c.co c.co)) 107 (0,0))∧
  w'.heap[po]? =some (.cells (sq Yz L []) 121 (0,0))∧L.length=c.co∧w'.heap[en]? =some (.cells (sq En.enc (List.replicate c.li enE) er) 117 (0,0))∧
  w'.heap[ab]? =some (.cells (sq Qbc L ar) 127 (0,0))∧c.co≤ac∧c.li≤ec∧(∀y∈L,RPok W w' po c.se c.wa y)∧
  ports L=List.replicate c.co (pt0 c)∧(po::en::ab::feet po L).Nodup∧(∀k∈po::en::ab::feet po L,w.heap.size≤k)∧Chg [sy] w w'
theorem rmem_all {z:RLay} {L:List (Po×Pt)} {k:Nat}:k∈z.all L↔(k=z.sy∨k=z.q∨k=z.g∨k=z.b∨k=z.po∨k=z.en∨k=z.ab∨(k=z.be∧z.be≠z.q))∨k∈feet z.po L:=by
 unfold RLay.all RLay.base
 simp only [List.mem_append,List.mem_cons,Vn,or_false,ZX]
 simp only [or_assoc]
theorem Qgd {W w w':World} {c:Cg} {sy q be g b:Nat} {es:List Ent} {xs:List Int} {C:Array Value} (hW:Chg [] W w) (hs:w.heap[sy]? =some (.cells C 107 (0,0)))
 (hm:RSys w q be g b c.li c.vo c.qu es xs) (hd:([sy,q,g,b]++opt q be).Nodup) (hn2:∀k∈[sy,q,g,b]++opt q be,W.heap.size≤k) (hf:RFresh W w c sy q w'):
 ∃z L,z.sy=sy∧Rsd W w' c z L (List.replicate c.li enE) es xs∧ports L=List.replicate c.co (pt0 c)∧Chg [sy] w w'∧∀k∈z.all L,k∈[sy,q,g,b]++opt q be∨w.heap.size≤k:=by
 obtain ⟨en,ec,er,ab,ac,ar,po,L,h1,h2,h3,h4,h5,h6,h7,h8,hp,hn,hl,hc⟩:=hf
 have ho:=hm.olds
 have hsy:=ZS hs
 have hWp:=hW.size
 have hsW:W.heap.size≤sy:=hn2 sy (by simp)
 have hmem:∀k∈(⟨sy,q,be,g,b,po,en,ab,ec,er,ac,ar⟩:RLay).all L,k∈[sy,q,g,b]++opt q be∨w.heap.size≤k:=by
  intro k hk
  rw [rmem_all] at hk
  simp only [List.mem_append,List.mem_cons,Vn,or_false,ZX]
  dsimp only at hk
  rcases hk with (h|h|h|h|h|h|h|h)|h
  ·simp [h]
  ·simp [h]
  ·simp [h]
  ·simp [h]
  ·exact .inr (by rw [h];exact hl po (by simp))
  ·exact .inr (by rw [h];exact hl en (by simp))
  ·exact .inr (by rw [h];exact hl ab (by simp))
  ·exact .inl (.inr h)
  ·exact .inr (hl k (by simp [h]))
 have n1:=(List.nodup_append.1 hd).1
 simp only [List.nodup_cons,List.mem_cons,Vn,or_false,not_or] at n1
 have n2:be≠sy:=by
  intro e
  by_cases hbq:be=q
  ·exact n1.1.1 (by rw [←e,hbq])
  ·exact (List.nodup_append.1 hd).2.2 sy (by simp) sy (ZX.2 ⟨e.symm,hbq⟩) rfl
 have hcw:=hW.trans' hc (fun x hx=>.inr (by rw [Vs hx];exact hsW))
 have hold:∀k∈[sy,q,g,b]++opt q be,k<w.heap.size:=by
  intro k hk
  simp only [List.mem_append,List.mem_cons,Vn,or_false,ZX] at hk
  rcases hk with (h|h|h|h)|h
  ·omega
  ·omega
  ·omega
  ·omega
  ·omega
 have hkeep:RSys w' q be g b c.li c.vo c.qu es xs:=hm.keep hc (by
  intro x hx
  simp only [List.mem_cons,Vn,or_false] at hx ⊢
  rcases hx with h|h|h|h
  ·rw [h];exact fun e=>n1.1.1 e.symm
  ·rw [h];exact n2
  ·rw [h];exact fun e=>n1.1.2.1 e.symm
  ·rw [h];exact fun e=>n1.1.2.2 e.symm)
 refine ⟨⟨sy,q,be,g,b,po,en,ab,ec,er,ac,ar⟩,L,rfl,⟨hcw,h1,⟨h6,h7⟩,⟨hcw,hkeep⟩,h2,h3,h4,by simp,h8,?_,?_,h5⟩,hp,hc,hmem⟩
 ·have e1:(⟨sy,q,be,g,b,po,en,ab,ec,er,ac,ar⟩:RLay).all L=[sy,q,g,b]++([po,en,ab]++(opt q be++feet po L)):=by
   unfold RLay.all RLay.base;simp
  have e2:([sy,q,g,b]++([po,en,ab]++(opt q be++feet po L))).Perm (([sy,q,g,b]++opt q be)++(po::en::ab::feet po L)):=by
   exact Tz130
  rw [e1,e2.nodup_iff,List.nodup_append]
  refine ⟨hd,hn,fun a ha b hb e=>?_⟩
  have:=hold a ha
  have:=hl b hb
  omega
 ·intro k hk
  rcases hmem k hk with h|h
  ·exact hn2 k h
  ·omega
end
end Go.Proofs.YtadeoflkppiflaaGreatDoor
