/- Texts of the walk, one behind the other: Dirw. No condition. -/
import Derived.Test.YtadeoflkppiflaaGreatDoorSaa
import Derived.Test.YtadeoflkppiflaaGreatDoorSar
import Derived.BigQuiet
import Derived.Deep.Cut
import Derived.Deep.CutBlock
import Derived.Deep.CutRange
import Derived.Deep.DeepCutAuto
import Derived.Deep.QuietTactic
import Derived.Deep.RegionHeld3
import Derived.Deep.RegionWith
namespace Go.Proofs.YtadeoflkppiflaaGreatDoor
open Go.RowKit
set_option linter.unusedVariables false
set_option maxHeartbeats 1000000
attribute [local go_sem ↓] QA QQ QH Q8 Zc QS QC Za QN ZB Zk Qm Ql heap_alloc Qo heap_setCell Qb ZF ZM ZK ZN ZL
attribute [local go_sem] Qc Qa Qd Qj Qf Qe Qh Qi Qw ZE QZ Zy QO QG Q6 Q0 Q5 Zi Zz Q9 QM QB QI Zj Q7 Qz QP Qt Qk Qs Qr Qq Qp Qg Ze lit8 Qv ZA Zl Zm
attribute [local simp ↓] Qm Ql heap_alloc Qo heap_setCell Qb
attribute [local simp] Qc Qa Qd Qj Qf Qe Qh Qi Qw QB Qk Qs Qr Qq Qp Qg Qv
attribute [local go_sem ↓] XP XQ XO XN XS XR XM XZ
attribute [local go_sem] Xi XV Xh ZR ZT QL Xp ZZ X3 Zw QW QV QU QY QX QT QK QJ Zg Zf Xm ZW
attribute [local simp] QL Zf QW QV QU QY QX QT QK QJ Zg
attribute [local go_sem ↓] Xo ZV Xn ZU Z0
attribute [local go_sem] Xk Xj ZY Xl Qx Qy Z6
attribute [local simp] Z0 Qx Qy QI Zw
attribute [local go_sem ↓] Qag Jo Qa3 JH
attribute [local go_sem] J7 Qa2
section
theorem En3r.S {w w1 wA W:World} {r:Nat} {y:En} {xs:List Sd} {n:Int} {A:Option Addr} {k:Nat} (hc:Chg [] w w1) (ho:Old w1 r) (hr:w.heap.size≤r) (hs:Sl wA 13 A xs.length (cat Sd.enc xs)) (hA:∀a,A=some a→w1.heap.size≤a.block)
 (hw:Chg [r] w1 wA) (h:Chg [r] wA W):En3r w ((y,xs),n) (.returned (.tuple #[.agg (ec y),.slice A xs.length k,.int .i64 n])) W:=by
 have h1:=ho.lt
 have h3:=hc.size
 exact ⟨A,k,rfl,hs.chg h (by intro a ha;have:=hA a ha;simp;omega),fun a ha=>Nat.le_trans h3 (hA a ha),hc.trans' (hw.trans h) (by simp [hr])⟩
theorem good_zero {x:En} (h:Xz x=true) (h0:x.bu=0):x.by_=0∧x.wa=0#8:=by
 refine ⟨?_,good_idle h h0⟩
 unfold Xz at h
 split at h
 ·rw [Bool.and_eq_true] at h
  have h2:=h.2
  rw [Jm,if_pos h0] at h2
  simp at h2
  exact h2.1
 ·have h2:=of_decide_eq_true h
  subst h2
  rfl
theorem Qgt {x:En} (h:Xz x=true):x.ow= -1∨(isC x.ow=true∧x.sh=0#8):=by
 unfold Xz at h
 split at h
 ·rw [Bool.and_eq_true] at h
  have h2:=h.1
  unfold Qav at h2
  rw [Bool.or_eq_true,Bool.and_eq_true] at h2
  rcases h2 with h2|h2
  ·exact .inl (by simpa using h2)
  ·exact .inr ⟨h2.1,by simpa using h2.2⟩
 ·have h2:=of_decide_eq_true h
  subst h2
  exact .inl rfl
theorem over_own {x:En} (c:Int) (h:Xz x=true) (h0:x.bu=0):XG ((x.setOw c).setSh 0#8)=(x.setOw c).setSh 0#8:=by
 obtain ⟨h1,h2⟩:=good_zero h h0
 simp [XG,En.setOw,En.setSh,En.setBu,En.setBy,En.setWa,h0,h1,h2]
theorem ge0 {n:Int} (h:isC n=true):(decide (0≤n))=true:=by simp [isC] at h ⊢;omega
set_option maxHeartbeats 4000000 in
set_option maxRecDepth 100000 in
theorem rask_S1 (x:En) (c:Int) (m:Ms) (w:World) (o00:Old w 0) (g1:Xz x=true) (g2:isC c=true) (g3:mg m=true) (g4:Yc m.kd=true) (hb:x.bu=0) (hh:x.he=true) (h1:isC x.ow=true) (h2:¬x.ow=c) (hk:m.kd=1):Calls Tryz.prog 114 #[.agg (ec x),.int .i64 c,.agg (msc m)] w (En3r w (Qal x c m,0)):=by
 have t1:(x.bu !=0)=false:=by simp [hb]
 have hx8:=x.h
 have hm8:=m.h
 have s1:(m.kd==1)=true:=by simp [hk]
 have e1:(Qal x c m,(0:Int))=((Qdm x 1 c (bitM x.ow),[⟨x.ow,ms4 13 m.li false false⟩]),0):=by
  have:x.ow≠ -1:=by intro h;rw [h] at h1;simp [isC] at h1
  simp [Qal,Y4,Qdm,hk,h2,this,YB,h1]
 have q1:=ge0 h1
 have q2:(x.ow !=c)=true:=by simpa using h2
 rw [e1]
 clear e1
 clear hk
 go_enter Tryz.func114,Tryz.ntmps114
 try dsimp only [List.append]
 go_wp2_with fail
 refine ZJ (w:=w) (b1:=w.heap.size) (x1:=.cells (ec (x)) 117 (0,0)) (b2:=w.heap.size+1) (x2:=.cells (msc m) 38 (0,0)) (b3:=w.heap.size+2) (x3:=.cells (ec (enZ)) 117 (0,0)) Cz0 (by simp [*]) (by simp [*]) (by simp [*]) fun w1 C1 rE rM rR=>?_
 have oE:=old rE
 have oM:=old rM
 have oR:=old rR
 refine (YY x _ g1 w1).mono ?_
 rintro e w3 ⟨rfl,c3⟩
 have rE3:=c3.keep rE (by simp)
 have rM3:=c3.keep rM (by simp)
 have rR3:=c3.keep rR (by simp)
 have C3:=C1.trans c3
 clear rE rM rR oE oM oR C1 c3
 have oE3:=old rE3
 have oM3:=old rM3
 have oR3:=old rR3
 go_wp2_with ((go_at_call 175;refine (YI _ _ g2 _).mono ?_;rintro e w' ⟨rfl,rfl⟩))
 refine (YN m _ g3 w3).mono ?_
 rintro e w4 ⟨rfl,c4⟩
 have rE4:=c4.keep rE3 (by simp)
 have rM4:=c4.keep rM3 (by simp)
 have rR4:=c4.keep rR3 (by simp)
 have C4:=C3.trans c4
 clear rE3 rM3 rR3 oE3 oM3 oR3 C3 c4
 have oE4:=old rE4
 have oM4:=old rM4
 have oR4:=old rR4
 clear g1 g2 g3
 go_wp2_with (first |(go_at_call 177;refine (JI _ _ g4 _).mono ?_;rintro e w' ⟨rfl,rfl⟩)|(go_at_call 178;refine (X6 _ _).mono ?_;rintro e w' ⟨rfl,rfl⟩))
 refine XK (w:=w) (b1:=w.heap.size) (x1:=.cells (ec (x)) 117 (0,0)) (b2:=w.heap.size+1) (x2:=.cells (msc m) 38 (0,0)) (b3:=w.heap.size+2) (x3:=.cells (ec (enZ)) 117 (0,0)) Cz0 (by simp [*]) (by simp [*]) (by simp [*]) fun w8 C8 rE rM rR=>?_
 have oE:=old rE
 have oM:=old rM
 have oR:=old rR
 go_region_held3 (fun w'=>w'.heap[w.heap.size]? =some (.cells (ec (x)) 117 (0,0))∧w'.heap[w.heap.size+1]? =some (.cells (msc m) 38 (0,0))) (exact ⟨Chg.keep (l:=[w.heap.size+2]) (w:=w8) Cz20 rE (by simp),Chg.keep (l:=[w.heap.size+2]) (w:=w8) Cz20 rM (by simp)⟩)
  (first
   |(go_at_call 180;refine (Qbb _ _).mono ?_;rintro e w' ⟨rfl,ca⟩;(first |(have Ta:Chg [w.heap.size+2] w8 _:=Chg.trans ((Chg.refl [w.heap.size+2] w8).drew) (Chg.mono ca (fun _ h=>absurd h Vn)))|(have Ta:Chg [w.heap.size+2] w8 _:=Chg.trans (Chg.alloc ((Chg.refl [w.heap.size+2] w8).drew) _) (Chg.mono ca (fun _ h=>absurd h Vn)))|(have Ta:Chg [w.heap.size+2] w8 _:=Chg.trans (Chg.putRow ((Chg.refl [w.heap.size+2] w8).drew) (w.heap.size+2) 0 _ (.inl (Vm rfl))) (Chg.mono ca (fun _ h=>absurd h Vn)))|(have Ta:Chg [w.heap.size+2] w8 _:=Chg.trans (Chg.putRow (Chg.alloc ((Chg.refl [w.heap.size+2] w8).drew) _) (w.heap.size+2) 0 _ (.inl (Vm rfl))) (Chg.mono ca (fun _ h=>absurd h Vn)))|(have Ta:Chg [w.heap.size+2] w8 _:=Chg.trans (Chg.alloc (Chg.putRow ((Chg.refl [w.heap.size+2] w8).drew) (w.heap.size+2) 0 _ (.inl (Vm rfl))) _) (Chg.mono ca (fun _ h=>absurd h Vn)))|(have Ta:Chg [w.heap.size+2] w8 _:=Chg.trans Tc (Chg.mono ca (fun _ h=>absurd h Vn)))|(have Ta:Chg [w.heap.size+2] w8 _:=Chg.trans (Chg.alloc Tc _) (Chg.mono ca (fun _ h=>absurd h Vn)))|(have Ta:Chg [w.heap.size+2] w8 _:=Chg.trans (Chg.putRow Tc (w.heap.size+2) 0 _ (.inl (Vm rfl))) (Chg.mono ca (fun _ h=>absurd h Vn)))|(have Ta:Chg [w.heap.size+2] w8 _:=Chg.trans (Chg.putRow (Chg.alloc Tc _) (w.heap.size+2) 0 _ (.inl (Vm rfl))) (Chg.mono ca (fun _ h=>absurd h Vn)))|(have Ta:Chg [w.heap.size+2] w8 _:=Chg.trans (Chg.alloc (Chg.putRow Tc (w.heap.size+2) 0 _ (.inl (Vm rfl))) _) (Chg.mono ca (fun _ h=>absurd h Vn))));(first |(have rRa:=ca.keep rR Vn)|(have rRa:=ca.keep rRc Vn)|(have rRa:=Chg.keep ((Chg.refl [] _).alloc _ |>.trans ca) rR Vn)|(have rRa:=Chg.keep ((Chg.refl [] _).alloc _ |>.trans ca) rRc Vn)|(have rRa:=ca.keep (Xd rR rfl) Vn)|(have rRa:=ca.keep (Xd rRc rfl) Vn)))
   |(go_at_call 179;refine (Qcd _ _ _ _ _).mono ?_;rintro e w' ⟨rfl,cb⟩;(first |(have Tb:Chg [w.heap.size+2] w8 _:=Chg.trans ((Chg.refl [w.heap.size+2] w8).drew) (Chg.mono cb (fun _ h=>absurd h Vn)))|(have Tb:Chg [w.heap.size+2] w8 _:=Chg.trans (Chg.alloc ((Chg.refl [w.heap.size+2] w8).drew) _) (Chg.mono cb (fun _ h=>absurd h Vn)))|(have Tb:Chg [w.heap.size+2] w8 _:=Chg.trans (Chg.putRow ((Chg.refl [w.heap.size+2] w8).drew) (w.heap.size+2) 0 _ (.inl (Vm rfl))) (Chg.mono cb (fun _ h=>absurd h Vn)))|(have Tb:Chg [w.heap.size+2] w8 _:=Chg.trans (Chg.putRow (Chg.alloc ((Chg.refl [w.heap.size+2] w8).drew) _) (w.heap.size+2) 0 _ (.inl (Vm rfl))) (Chg.mono cb (fun _ h=>absurd h Vn)))|(have Tb:Chg [w.heap.size+2] w8 _:=Chg.trans (Chg.alloc (Chg.putRow ((Chg.refl [w.heap.size+2] w8).drew) (w.heap.size+2) 0 _ (.inl (Vm rfl))) _) (Chg.mono cb (fun _ h=>absurd h Vn)))|(have Tb:Chg [w.heap.size+2] w8 _:=Chg.trans Ta (Chg.mono cb (fun _ h=>absurd h Vn)))|(have Tb:Chg [w.heap.size+2] w8 _:=Chg.trans (Chg.alloc Ta _) (Chg.mono cb (fun _ h=>absurd h Vn)))|(have Tb:Chg [w.heap.size+2] w8 _:=Chg.trans (Chg.putRow Ta (w.heap.size+2) 0 _ (.inl (Vm rfl))) (Chg.mono cb (fun _ h=>absurd h Vn)))|(have Tb:Chg [w.heap.size+2] w8 _:=Chg.trans (Chg.putRow (Chg.alloc Ta _) (w.heap.size+2) 0 _ (.inl (Vm rfl))) (Chg.mono cb (fun _ h=>absurd h Vn)))|(have Tb:Chg [w.heap.size+2] w8 _:=Chg.trans (Chg.alloc (Chg.putRow Ta (w.heap.size+2) 0 _ (.inl (Vm rfl))) _) (Chg.mono cb (fun _ h=>absurd h Vn)))|(have Tb:Chg [w.heap.size+2] w8 _:=Chg.trans Tc (Chg.mono cb (fun _ h=>absurd h Vn)))|(have Tb:Chg [w.heap.size+2] w8 _:=Chg.trans (Chg.alloc Tc _) (Chg.mono cb (fun _ h=>absurd h Vn)))|(have Tb:Chg [w.heap.size+2] w8 _:=Chg.trans (Chg.putRow Tc (w.heap.size+2) 0 _ (.inl (Vm rfl))) (Chg.mono cb (fun _ h=>absurd h Vn)))|(have Tb:Chg [w.heap.size+2] w8 _:=Chg.trans (Chg.putRow (Chg.alloc Tc _) (w.heap.size+2) 0 _ (.inl (Vm rfl))) (Chg.mono cb (fun _ h=>absurd h Vn)))|(have Tb:Chg [w.heap.size+2] w8 _:=Chg.trans (Chg.alloc (Chg.putRow Tc (w.heap.size+2) 0 _ (.inl (Vm rfl))) _) (Chg.mono cb (fun _ h=>absurd h Vn))));(first |(have rRb:=cb.keep rR Vn)|(have rRb:=cb.keep rRa Vn)|(have rRb:=cb.keep rRc Vn)|(have rRb:=Chg.keep ((Chg.refl [] _).alloc _ |>.trans cb) rR Vn)|(have rRb:=Chg.keep ((Chg.refl [] _).alloc _ |>.trans cb) rRa Vn)|(have rRb:=Chg.keep ((Chg.refl [] _).alloc _ |>.trans cb) rRc Vn)|(have rRb:=cb.keep (Xd rR rfl) Vn)|(have rRb:=cb.keep (Xd rRa rfl) Vn)|(have rRb:=cb.keep (Xd rRc rfl) Vn)))
   |(go_at_call 181;refine (J5 _ _ _ _).mono ?_;rintro e w' ⟨rfl,cc⟩;(first |(have Tc:Chg [w.heap.size+2] w8 _:=Chg.trans ((Chg.refl [w.heap.size+2] w8).drew) (Chg.mono cc (fun _ h=>absurd h Vn)))|(have Tc:Chg [w.heap.size+2] w8 _:=Chg.trans (Chg.alloc ((Chg.refl [w.heap.size+2] w8).drew) _) (Chg.mono cc (fun _ h=>absurd h Vn)))|(have Tc:Chg [w.heap.size+2] w8 _:=Chg.trans (Chg.putRow ((Chg.refl [w.heap.size+2] w8).drew) (w.heap.size+2) 0 _ (.inl (Vm rfl))) (Chg.mono cc (fun _ h=>absurd h Vn)))|(have Tc:Chg [w.heap.size+2] w8 _:=Chg.trans (Chg.putRow (Chg.alloc ((Chg.refl [w.heap.size+2] w8).drew) _) (w.heap.size+2) 0 _ (.inl (Vm rfl))) (Chg.mono cc (fun _ h=>absurd h Vn)))|(have Tc:Chg [w.heap.size+2] w8 _:=Chg.trans (Chg.alloc (Chg.putRow ((Chg.refl [w.heap.size+2] w8).drew) (w.heap.size+2) 0 _ (.inl (Vm rfl))) _) (Chg.mono cc (fun _ h=>absurd h Vn)))|(have Tc:Chg [w.heap.size+2] w8 _:=Chg.trans Ta (Chg.mono cc (fun _ h=>absurd h Vn)))|(have Tc:Chg [w.heap.size+2] w8 _:=Chg.trans (Chg.alloc Ta _) (Chg.mono cc (fun _ h=>absurd h Vn)))|(have Tc:Chg [w.heap.size+2] w8 _:=Chg.trans (Chg.putRow Ta (w.heap.size+2) 0 _ (.inl (Vm rfl))) (Chg.mono cc (fun _ h=>absurd h Vn)))|(have Tc:Chg [w.heap.size+2] w8 _:=Chg.trans (Chg.putRow (Chg.alloc Ta _) (w.heap.size+2) 0 _ (.inl (Vm rfl))) (Chg.mono cc (fun _ h=>absurd h Vn)))|(have Tc:Chg [w.heap.size+2] w8 _:=Chg.trans (Chg.alloc (Chg.putRow Ta (w.heap.size+2) 0 _ (.inl (Vm rfl))) _) (Chg.mono cc (fun _ h=>absurd h Vn)))|(have Tc:Chg [w.heap.size+2] w8 _:=Chg.trans Tb (Chg.mono cc (fun _ h=>absurd h Vn)))|(have Tc:Chg [w.heap.size+2] w8 _:=Chg.trans (Chg.alloc Tb _) (Chg.mono cc (fun _ h=>absurd h Vn)))|(have Tc:Chg [w.heap.size+2] w8 _:=Chg.trans (Chg.putRow Tb (w.heap.size+2) 0 _ (.inl (Vm rfl))) (Chg.mono cc (fun _ h=>absurd h Vn)))|(have Tc:Chg [w.heap.size+2] w8 _:=Chg.trans (Chg.putRow (Chg.alloc Tb _) (w.heap.size+2) 0 _ (.inl (Vm rfl))) (Chg.mono cc (fun _ h=>absurd h Vn)))|(have Tc:Chg [w.heap.size+2] w8 _:=Chg.trans (Chg.alloc (Chg.putRow Tb (w.heap.size+2) 0 _ (.inl (Vm rfl))) _) (Chg.mono cc (fun _ h=>absurd h Vn))));(first |(have rRc:=cc.keep rR Vn)|(have rRc:=cc.keep rRa Vn)|(have rRc:=cc.keep rRb Vn)|(have rRc:=Chg.keep ((Chg.refl [] _).alloc _ |>.trans cc) rR Vn)|(have rRc:=Chg.keep ((Chg.refl [] _).alloc _ |>.trans cc) rRa Vn)|(have rRc:=Chg.keep ((Chg.refl [] _).alloc _ |>.trans cc) rRb Vn)|(have rRc:=cc.keep (Xd rR rfl) Vn)|(have rRc:=cc.keep (Xd rRa rfl) Vn)|(have rRc:=cc.keep (Xd rRb rfl) Vn))))
 all_goals
  go_wp2_with fail
  refine bodyPost_ret (Xx (by rfl) _ _ (w.heap.size+2) (Qdm x 1 c (bitM x.ow)) (0,0) (by rfl) (by first |(simp [rRc];done)|(simp [rRb];done)|(simp [rRa];done)) _ _ (by rfl) (by rfl)) (by rfl) ?_
  first
   |exact En3r.L1 C8 Tb oR (by omega)
   |exact En3r.L1p C8 Tb oR (by omega)
   |exact En3r.L2 C8 Tb oR (by omega)
   |exact En3r.L1 C8 Tc oR (by omega)
   |exact En3r.L1p C8 Tc oR (by omega)
   |exact En3r.L2 C8 Tc oR (by omega)
   |exact En3r.L1 C8 Ta oR (by omega)
   |exact En3r.L1p C8 Ta oR (by omega)
   |exact En3r.L2 C8 Ta oR (by omega)
   |exact En3r.L3 C8 Tb oR (by omega) cb
   |exact En3r.L3 C8 Tb oR (by omega) (Chg.trans ca cb)
   |exact En3r.L3 C8 Tc oR (by omega) cb
   |exact En3r.L3 C8 Tc oR (by omega) (Chg.trans ca cb)
   |exact En3r.L3 C8 Ta oR (by omega) cb
   |exact En3r.L3 C8 Ta oR (by omega) (Chg.trans ca cb)
   |exact En3r.L1 C8 (Chg.drew (Chg.refl [w.heap.size+2] w8)) oR (by omega)
   |exact En3r.L1p C8 (Chg.drew (Chg.refl [w.heap.size+2] w8)) oR (by omega)
   |exact En3r.L2 C8 (Chg.drew (Chg.refl [w.heap.size+2] w8)) oR (by omega)
set_option maxHeartbeats 4000000 in
set_option maxRecDepth 100000 in
theorem rask_S2 (x:En) (c:Int) (m:Ms) (w:World) (o00:Old w 0) (g1:Xz x=true) (g2:isC c=true) (g3:mg m=true) (g4:Yc m.kd=true) (hb:x.bu=0) (hh:x.he=true) (h1:¬(x.ow≠ -1∧x.ow≠c)) (h2:x.sh=0#8) (hk:m.kd=1):Calls Tryz.prog 114 #[.agg (ec x),.int .i64 c,.agg (msc m)] w (En3r w (Qal x c m,0)):=by
 have t1:(x.bu !=0)=false:=by simp [hb]
 have hx8:=x.h
 have hm8:=m.h
 have s1:(m.kd==1)=true:=by simp [hk]
 have hX:=h1
 have e1:(Qal x c m,(0:Int))=((XG ((x.setOw c).setSh 0#8),[⟨c,ms5 9 m.li x.l x.h⟩]),0):=by
  rw [over_own c g1 hb]
  simp [Qal,YA,YB,g2,hX,h2]
 rw [e1]
 clear e1 hX
 have q3:(x.sh==0#8)=true:=by simp [h2]
 have q:decide (0≤x.ow)=false∨(decide (0≤x.ow)=true∧(x.ow !=c)=false):=by
  rcases Qgt g1 with h|⟨h,_⟩
  ·exact .inl (by simp [h])
  ·refine .inr ⟨ge0 h,?_⟩
   have:x.ow=c:=Decidable.byContradiction fun h3=>h1 ⟨by intro h4;rw [h4] at h;simp [isC] at h,h3⟩
   simp [this]
 clear h1
 rcases q with q1|⟨q1,q2⟩
 all_goals
  clear hk
  go_enter Tryz.func114,Tryz.ntmps114
  try dsimp only [List.append]
  go_wp2_with fail
  refine ZJ (w:=w) (b1:=w.heap.size) (x1:=.cells (ec (x)) 117 (0,0)) (b2:=w.heap.size+1) (x2:=.cells (msc m) 38 (0,0)) (b3:=w.heap.size+2) (x3:=.cells (ec (enZ)) 117 (0,0)) Cz0 (by simp [*]) (by simp [*]) (by simp [*]) fun w1 C1 rE rM rR=>?_
  have oE:=old rE
  have oM:=old rM
  have oR:=old rR
  refine (YY x _ g1 w1).mono ?_
  rintro e w3 ⟨rfl,c3⟩
  have rE3:=c3.keep rE (by simp)
  have rM3:=c3.keep rM (by simp)
  have rR3:=c3.keep rR (by simp)
  have C3:=C1.trans c3
  clear rE rM rR oE oM oR C1 c3
  have oE3:=old rE3
  have oM3:=old rM3
  have oR3:=old rR3
  go_wp2_with ((go_at_call 175;refine (YI _ _ g2 _).mono ?_;rintro e w' ⟨rfl,rfl⟩))
  refine (YN m _ g3 w3).mono ?_
  rintro e w4 ⟨rfl,c4⟩
  have rE4:=c4.keep rE3 (by simp)
  have rM4:=c4.keep rM3 (by simp)
  have rR4:=c4.keep rR3 (by simp)
  have C4:=C3.trans c4
  clear rE3 rM3 rR3 oE3 oM3 oR3 C3 c4
  have oE4:=old rE4
  have oM4:=old rM4
  have oR4:=old rR4
  clear g1 g2 g3
  go_upto_region 13 with (first |(go_at_call 177;refine (JI _ _ g4 _).mono ?_;rintro e w' ⟨rfl,rfl⟩)|(go_at_call 178;refine (X6 _ _).mono ?_;rintro e w' ⟨rfl,rfl⟩))
  refine XK (w:=w) (b1:=w.heap.size) (x1:=.cells (ec (x)) 117 (0,0)) (b2:=w.heap.size+1) (x2:=.cells (msc m) 38 (0,0)) (b3:=w.heap.size+2) (x3:=.cells (ec (enZ)) 117 (0,0)) Cz0 (by simp [*]) (by simp [*]) (by simp [*]) fun w8 C8 rE rM rR=>?_
  have oE:=old rE
  have oM:=old rM
  have oR:=old rR
  exact Tz6
set_option maxHeartbeats 4000000 in
set_option maxRecDepth 100000 in
theorem rask_S3 (x:En) (c:Int) (m:Ms) (w:World) (o00:Old w 0) (g1:Xz x=true) (g2:isC c=true) (g3:mg m=true) (g4:Yc m.kd=true) (hb:x.bu=0) (hh:x.he=true) (h1:¬(x.ow≠ -1∧x.ow≠c)) (h2:¬x.sh=0#8) (hk:m.kd=1):Calls Tryz.prog 114 #[.agg (ec x),.int .i64 c,.agg (msc m)] w (En3r w (Qal x c m,0)):=by
 have t1:(x.bu !=0)=false:=by simp [hb]
 have hx8:=x.h
 have hm8:=m.h
 have s1:(m.kd==1)=true:=by simp [hk]
 have e1:(Qal x c m,(0:Int))=((x.setSh (x.sh|||bitM c),[⟨c,ms5 8 m.li x.l x.h⟩]),0):=by
  simp [Qal,Yp,h1,h2,YB,g2]
 have q3:(x.sh==0#8)=false:=by simp [h2]
 have q1:decide (0≤x.ow)=false:=by
  rcases Qgt g1 with h|⟨_,h⟩
  ·simp [h]
  ·exact absurd h h2
 rw [e1]
 clear e1 h1 h2
 clear hk
 go_enter Tryz.func114,Tryz.ntmps114
 try dsimp only [List.append]
 go_wp2_with fail
 refine ZJ (w:=w) (b1:=w.heap.size) (x1:=.cells (ec (x)) 117 (0,0)) (b2:=w.heap.size+1) (x2:=.cells (msc m) 38 (0,0)) (b3:=w.heap.size+2) (x3:=.cells (ec (enZ)) 117 (0,0)) Cz0 (by simp [*]) (by simp [*]) (by simp [*]) fun w1 C1 rE rM rR=>?_
 have oE:=old rE
 have oM:=old rM
 have oR:=old rR
 refine (YY x _ g1 w1).mono ?_
 rintro e w3 ⟨rfl,c3⟩
 have rE3:=c3.keep rE (by simp)
 have rM3:=c3.keep rM (by simp)
 have rR3:=c3.keep rR (by simp)
 have C3:=C1.trans c3
 clear rE rM rR oE oM oR C1 c3
 have oE3:=old rE3
 have oM3:=old rM3
 have oR3:=old rR3
 go_wp2_with ((go_at_call 175;refine (YI _ _ g2 _).mono ?_;rintro e w' ⟨rfl,rfl⟩))
 refine (YN m _ g3 w3).mono ?_
 rintro e w4 ⟨rfl,c4⟩
 have rE4:=c4.keep rE3 (by simp)
 have rM4:=c4.keep rM3 (by simp)
 have rR4:=c4.keep rR3 (by simp)
 have C4:=C3.trans c4
 clear rE3 rM3 rR3 oE3 oM3 oR3 C3 c4
 have oE4:=old rE4
 have oM4:=old rM4
 have oR4:=old rR4
 clear g1 g2 g3
 go_upto_region 15 with (first |(go_at_call 177;refine (JI _ _ g4 _).mono ?_;rintro e w' ⟨rfl,rfl⟩)|(go_at_call 178;refine (X6 _ _).mono ?_;rintro e w' ⟨rfl,rfl⟩))
 refine XK (w:=w) (b1:=w.heap.size) (x1:=.cells (ec (x.setSh (x.sh|||bitM c))) 117 (0,0)) (b2:=w.heap.size+1) (x2:=.cells (msc m) 38 (0,0)) (b3:=w.heap.size+2) (x3:=.cells (ec (enZ)) 117 (0,0)) Cz0 (by simp [*]) (by simp [*]) (by simp [*]) fun w8 C8 rE rM rR=>?_
 have oE:=old rE
 have oM:=old rM
 have oR:=old rR
 go_region_held3 (fun w'=>w'.heap[w.heap.size]? =some (.cells (ec (x.setSh (x.sh|||bitM c))) 117 (0,0))∧w'.heap[w.heap.size+1]? =some (.cells (msc m) 38 (0,0))) (exact ⟨Chg.keep (l:=[w.heap.size+2]) (w:=w8) Cz3 rE (by simp),Chg.keep (l:=[w.heap.size+2]) (w:=w8) Cz3 rM (by simp)⟩)
  (first
   |(go_at_call 181;refine (Qa8 _ _ _ _ x.h _).mono ?_;rintro e w' ⟨rfl,cc⟩;(first |(have Tc:Chg [w.heap.size+2] w8 _:=Chg.trans ((Chg.refl [w.heap.size+2] w8).drew) (Chg.mono cc (fun _ h=>absurd h Vn)))|(have Tc:Chg [w.heap.size+2] w8 _:=Chg.trans (Chg.alloc ((Chg.refl [w.heap.size+2] w8).drew) _) (Chg.mono cc (fun _ h=>absurd h Vn)))|(have Tc:Chg [w.heap.size+2] w8 _:=Chg.trans (Chg.putRow ((Chg.refl [w.heap.size+2] w8).drew) (w.heap.size+2) 0 _ (.inl (Vm rfl))) (Chg.mono cc (fun _ h=>absurd h Vn)))|(have Tc:Chg [w.heap.size+2] w8 _:=Chg.trans (Chg.putRow (Chg.alloc ((Chg.refl [w.heap.size+2] w8).drew) _) (w.heap.size+2) 0 _ (.inl (Vm rfl))) (Chg.mono cc (fun _ h=>absurd h Vn)))|(have Tc:Chg [w.heap.size+2] w8 _:=Chg.trans (Chg.alloc (Chg.putRow ((Chg.refl [w.heap.size+2] w8).drew) (w.heap.size+2) 0 _ (.inl (Vm rfl))) _) (Chg.mono cc (fun _ h=>absurd h Vn))));(first |(have rRc:=cc.keep rR Vn)|(have rRc:=Chg.keep ((Chg.refl [] _).alloc _ |>.trans cc) rR Vn)|(have rRc:=cc.keep (Xd rR rfl) Vn))))
 all_goals
  go_wp2_with fail
  refine bodyPost_ret (Xx (by rfl) _ _ (w.heap.size+2) (x.setSh (x.sh|||bitM c)) (0,0) (by rfl) (by first |(simp [rRc];done)) _ _ (by rfl) (by rfl)) (by rfl) ?_
  exact Tz32
theorem oth_eq (x:En) (c:Int):((bitM x.ow|||x.sh)&&& ~~~(bitM c))=(XH x&&& ~~~(bitM c)):=by unfold XH;rw [or_bits]
set_option maxHeartbeats 4000000 in
set_option maxRecDepth 100000 in
theorem rask_M1 (x:En) (c:Int) (m:Ms) (w:World) (o00:Old w 0) (g1:Xz x=true) (g2:isC c=true) (g3:mg m=true) (g4:Yc m.kd=true) (hb:x.bu=0) (hh:x.he=true) (h1:((bitM x.ow|||x.sh)&&& ~~~(bitM c))=0#8) (hk:m.kd=2):Calls Tryz.prog 114 #[.agg (ec x),.int .i64 c,.agg (msc m)] w (En3r w (Qb6 x c m,0)):=by
 have t1:(x.bu !=0)=false:=by simp [hb]
 have hx8:=x.h
 have hm8:=m.h
 have s1:(m.kd==1)=false:=by simp [hk]
 have s2:(m.kd==2)=true:=by simp [hk]
 have hX:(XH x&&& ~~~(bitM c))=0#8:=by rw [←oth_eq];exact h1
 have e1:(Qb6 x c m,(0:Int))=((XG ((x.setOw c).setSh 0#8),[⟨c,ms5 10 m.li x.l x.h⟩]),0):=by
  rw [over_own c g1 hb]
  simp [Qb6,YA,YB,g2,hX]
 rw [e1]
 clear e1 hX
 have q3:(((bitM x.ow|||x.sh)&&& ~~~(bitM c))==0#8)=true:=by simp [h1]
 clear h1
 clear hk
 go_enter Tryz.func114,Tryz.ntmps114
 try dsimp only [List.append]
 go_wp2_with fail
 refine ZJ (w:=w) (b1:=w.heap.size) (x1:=.cells (ec (x)) 117 (0,0)) (b2:=w.heap.size+1) (x2:=.cells (msc m) 38 (0,0)) (b3:=w.heap.size+2) (x3:=.cells (ec (enZ)) 117 (0,0)) Cz0 (by simp [*]) (by simp [*]) (by simp [*]) fun w1 C1 rE rM rR=>?_
 have oE:=old rE
 have oM:=old rM
 have oR:=old rR
 refine (YY x _ g1 w1).mono ?_
 rintro e w3 ⟨rfl,c3⟩
 have rE3:=c3.keep rE (by simp)
 have rM3:=c3.keep rM (by simp)
 have rR3:=c3.keep rR (by simp)
 have C3:=C1.trans c3
 clear rE rM rR oE oM oR C1 c3
 have oE3:=old rE3
 have oM3:=old rM3
 have oR3:=old rR3
 go_wp2_with ((go_at_call 175;refine (YI _ _ g2 _).mono ?_;rintro e w' ⟨rfl,rfl⟩))
 refine (YN m _ g3 w3).mono ?_
 rintro e w4 ⟨rfl,c4⟩
 have rE4:=c4.keep rE3 (by simp)
 have rM4:=c4.keep rM3 (by simp)
 have rR4:=c4.keep rR3 (by simp)
 have C4:=C3.trans c4
 clear rE3 rM3 rR3 oE3 oM3 oR3 C3 c4
 have oE4:=old rE4
 have oM4:=old rM4
 have oR4:=old rR4
 clear g1 g2 g3
 go_upto_region 17 with (first |(go_at_call 177;refine (JI _ _ g4 _).mono ?_;rintro e w' ⟨rfl,rfl⟩)|(go_at_call 178;refine (X6 _ _).mono ?_;rintro e w' ⟨rfl,rfl⟩))
 have hx:∀y:Aft w4.heap.size w4,y.w.heap[w.heap.size]? =some (.cells (ec (x)) 117 (0,0)):=fun y=>(y.block oE4.lt).trans rE4
 have hxm:∀y:Aft w4.heap.size w4,y.w.heap[w.heap.size+1]? =some (.cells (msc m) 38 (0,0)):=fun y=>(y.block oM4.lt).trans rM4
 have hxr:∀y:Aft w4.heap.size w4,y.w.heap[w.heap.size+2]? =some (.cells (ec (enZ)) 117 (0,0)):=fun y=>(y.block oR4.lt).trans rR4
 refine YV w4.heap.size (by kernel_rfl) (by kernel_rfl) ?_
 repeat (go_big_quiet_step (first
  |(go_at_call 180;exact Qc4 (Nat.le_refl _) (Qbb x _))))
 refine wpQuiet_nil ?_
 rintro _ ⟨y,rfl⟩
 have rE:=hx y
 have rM:=hxm y
 have rR:=hxr y
 have C8:=C4.trans (Below.chg y.below (Nat.le_refl _))
 generalize hw8:y.w=w8 at *
 clear hx hxm hxr rE4 rM4 rR4 oE4 oM4 oR4 C4 hw8 y
 have oE:=old rE
 have oM:=old rM
 have oR:=old rR
 go_upto_region 19 with fail
 exact Tz6
set_option maxHeartbeats 4000000 in
set_option maxRecDepth 100000 in
theorem rask_M2 (x:En) (c:Int) (m:Ms) (w:World) (o00:Old w 0) (g1:Xz x=true) (g2:isC c=true) (g3:mg m=true) (g4:Yc m.kd=true) (hb:x.bu=0) (hh:x.he=true) (h1:¬((bitM x.ow|||x.sh)&&& ~~~(bitM c))=0#8) (hk:m.kd=2):Calls Tryz.prog 114 #[.agg (ec x),.int .i64 c,.agg (msc m)] w (En3r w (Qb6 x c m,0)):=by
 have t1:(x.bu !=0)=false:=by simp [hb]
 have hx8:=x.h
 have hm8:=m.h
 have s1:(m.kd==1)=false:=by simp [hk]
 have s2:(m.kd==2)=true:=by simp [hk]
 have e1:(Qb6 x c m,(0:Int))=((Qdm x 2 c ((bitM x.ow|||x.sh)&&& ~~~(bitM c)),Xf ((bitM x.ow|||x.sh)&&& ~~~(bitM c)) (ms4 12 m.li false false)),0):=by
  have hX:¬(XH x&&& ~~~(bitM c))=0#8:=by rw [←oth_eq];exact h1
  simp [Qb6,Y4,Qdm,hk,hX,oth_eq]
 have q3:(((bitM x.ow|||x.sh)&&& ~~~(bitM c))==0#8)=false:=by simp [h1]
 rw [e1]
 clear e1 h1
 generalize hoo:((bitM x.ow|||x.sh)&&& ~~~(bitM c))=o at *
 clear hk
 go_enter Tryz.func114,Tryz.ntmps114
 try dsimp only [List.append]
 go_wp2_with fail
 refine ZJ (w:=w) (b1:=w.heap.size) (x1:=.cells (ec (x)) 117 (0,0)) (b2:=w.heap.size+1) (x2:=.cells (msc m) 38 (0,0)) (b3:=w.heap.size+2) (x3:=.cells (ec (enZ)) 117 (0,0)) Cz0 (by simp [*]) (by simp [*]) (by simp [*]) fun w1 C1 rE rM rR=>?_
 have oE:=old rE
 have oM:=old rM
 have oR:=old rR
 refine (YY x _ g1 w1).mono ?_
 rintro e w3 ⟨rfl,c3⟩
 have rE3:=c3.keep rE (by simp)
 have rM3:=c3.keep rM (by simp)
 have rR3:=c3.keep rR (by simp)
 have C3:=C1.trans c3
 clear rE rM rR oE oM oR C1 c3
 have oE3:=old rE3
 have oM3:=old rM3
 have oR3:=old rR3
 go_wp2_with ((go_at_call 175;refine (YI _ _ g2 _).mono ?_;rintro e w' ⟨rfl,rfl⟩))
 refine (YN m _ g3 w3).mono ?_
 rintro e w4 ⟨rfl,c4⟩
 have rE4:=c4.keep rE3 (by simp)
 have rM4:=c4.keep rM3 (by simp)
 have rR4:=c4.keep rR3 (by simp)
 have C4:=C3.trans c4
 clear rE3 rM3 rR3 oE3 oM3 oR3 C3 c4
 have oE4:=old rE4
 have oM4:=old rM4
 have oR4:=old rR4
 clear g1 g2 g3
 go_upto_region 17 with (first |(go_at_call 177;refine (JI _ _ g4 _).mono ?_;rintro e w' ⟨rfl,rfl⟩)|(go_at_call 178;refine (X6 _ _).mono ?_;rintro e w' ⟨rfl,rfl⟩))
 have hx:∀y:Aft w4.heap.size w4,y.w.heap[w.heap.size]? =some (.cells (ec (x)) 117 (0,0)):=fun y=>(y.block oE4.lt).trans rE4
 have hxm:∀y:Aft w4.heap.size w4,y.w.heap[w.heap.size+1]? =some (.cells (msc m) 38 (0,0)):=fun y=>(y.block oM4.lt).trans rM4
 have hxr:∀y:Aft w4.heap.size w4,y.w.heap[w.heap.size+2]? =some (.cells (ec (enZ)) 117 (0,0)):=fun y=>(y.block oR4.lt).trans rR4
 refine YV w4.heap.size (by kernel_rfl) (by kernel_rfl) ?_
 repeat (go_big_quiet_step (first
  |(go_at_call 180;exact Qc4 (Nat.le_refl _) (Qbb x _))))
 refine wpQuiet_nil ?_
 rintro _ ⟨y,rfl⟩
 have rE:=hx y
 have rM:=hxm y
 have rR:=hxr y
 have C8:=C4.trans (Below.chg y.below (Nat.le_refl _))
 generalize hw8:y.w=w8 at *
 clear hx hxm hxr rE4 rM4 rR4 oE4 oM4 oR4 C4 hw8 y
 have oE:=old rE
 have oM:=old rM
 have oR:=old rR
 have o0:=o00.chg C8
 go_upto_region 20 with fail
 go_region_held3 (fun w'=>w'.heap[w.heap.size]? =some (.cells (ec (x)) 117 (0,0))∧w'.heap[w.heap.size+1]? =some (.cells (msc m) 38 (0,0))) (exact ⟨Chg.keep (l:=[w.heap.size+2]) (w:=w8) Cz10 rE (by simp),Chg.keep (l:=[w.heap.size+2]) (w:=w8) Cz10 rM (by simp)⟩)
  (first
   |(go_at_call 179;refine (Qcd _ _ _ _ _).mono ?_;rintro e w' ⟨rfl,cb⟩;(first |(have Tb:Chg [w.heap.size+2] w8 _:=Chg.trans ((Chg.refl [w.heap.size+2] w8).drew) (Chg.mono cb (fun _ h=>absurd h Vn)))|(have Tb:Chg [w.heap.size+2] w8 _:=Chg.trans (Chg.alloc ((Chg.refl [w.heap.size+2] w8).drew) _) (Chg.mono cb (fun _ h=>absurd h Vn)))|(have Tb:Chg [w.heap.size+2] w8 _:=Chg.trans (Chg.putRow ((Chg.refl [w.heap.size+2] w8).drew) (w.heap.size+2) 0 _ (.inl (Vm rfl))) (Chg.mono cb (fun _ h=>absurd h Vn)))|(have Tb:Chg [w.heap.size+2] w8 _:=Chg.trans (Chg.putRow (Chg.alloc ((Chg.refl [w.heap.size+2] w8).drew) _) (w.heap.size+2) 0 _ (.inl (Vm rfl))) (Chg.mono cb (fun _ h=>absurd h Vn)))|(have Tb:Chg [w.heap.size+2] w8 _:=Chg.trans (Chg.alloc (Chg.putRow ((Chg.refl [w.heap.size+2] w8).drew) (w.heap.size+2) 0 _ (.inl (Vm rfl))) _) (Chg.mono cb (fun _ h=>absurd h Vn)))|(have Tb:Chg [w.heap.size+2] w8 _:=Chg.trans Td (Chg.mono cb (fun _ h=>absurd h Vn)))|(have Tb:Chg [w.heap.size+2] w8 _:=Chg.trans (Chg.alloc Td _) (Chg.mono cb (fun _ h=>absurd h Vn)))|(have Tb:Chg [w.heap.size+2] w8 _:=Chg.trans (Chg.putRow Td (w.heap.size+2) 0 _ (.inl (Vm rfl))) (Chg.mono cb (fun _ h=>absurd h Vn)))|(have Tb:Chg [w.heap.size+2] w8 _:=Chg.trans (Chg.putRow (Chg.alloc Td _) (w.heap.size+2) 0 _ (.inl (Vm rfl))) (Chg.mono cb (fun _ h=>absurd h Vn)))|(have Tb:Chg [w.heap.size+2] w8 _:=Chg.trans (Chg.alloc (Chg.putRow Td (w.heap.size+2) 0 _ (.inl (Vm rfl))) _) (Chg.mono cb (fun _ h=>absurd h Vn))));(first |(have rRb:=cb.keep rR Vn)|(have rRb:=cb.keep rRd Vn)|(have rRb:=Chg.keep ((Chg.refl [] _).alloc _ |>.trans cb) rR Vn)|(have rRb:=Chg.keep ((Chg.refl [] _).alloc _ |>.trans cb) rRd Vn)|(have rRb:=cb.keep (Xd rR rfl) Vn)|(have rRb:=cb.keep (Xd rRd rfl) Vn)))
   |(go_at_call 183;refine (rall_any _ _ _ _ ?_).mono ?_;(first |exact o0|exact Nat.lt_of_lt_of_le o0.lt (Chg.size Tb)|exact Nat.lt_of_lt_of_le o0.lt (Chg.size (Chg.putRow Tb (w.heap.size+2) 0 _ (.inl (Vm rfl)))));rintro e w' ⟨A2,n2,rfl,hs2,hA2,cd⟩;(first |(have Td:Chg [w.heap.size+2] w8 _:=Chg.trans ((Chg.refl [w.heap.size+2] w8).drew) (Chg.mono cd (fun _ h=>absurd h Vn)))|(have Td:Chg [w.heap.size+2] w8 _:=Chg.trans (Chg.alloc ((Chg.refl [w.heap.size+2] w8).drew) _) (Chg.mono cd (fun _ h=>absurd h Vn)))|(have Td:Chg [w.heap.size+2] w8 _:=Chg.trans (Chg.putRow ((Chg.refl [w.heap.size+2] w8).drew) (w.heap.size+2) 0 _ (.inl (Vm rfl))) (Chg.mono cd (fun _ h=>absurd h Vn)))|(have Td:Chg [w.heap.size+2] w8 _:=Chg.trans (Chg.putRow (Chg.alloc ((Chg.refl [w.heap.size+2] w8).drew) _) (w.heap.size+2) 0 _ (.inl (Vm rfl))) (Chg.mono cd (fun _ h=>absurd h Vn)))|(have Td:Chg [w.heap.size+2] w8 _:=Chg.trans (Chg.alloc (Chg.putRow ((Chg.refl [w.heap.size+2] w8).drew) (w.heap.size+2) 0 _ (.inl (Vm rfl))) _) (Chg.mono cd (fun _ h=>absurd h Vn)))|(have Td:Chg [w.heap.size+2] w8 _:=Chg.trans Tb (Chg.mono cd (fun _ h=>absurd h Vn)))|(have Td:Chg [w.heap.size+2] w8 _:=Chg.trans (Chg.alloc Tb _) (Chg.mono cd (fun _ h=>absurd h Vn)))|(have Td:Chg [w.heap.size+2] w8 _:=Chg.trans (Chg.putRow Tb (w.heap.size+2) 0 _ (.inl (Vm rfl))) (Chg.mono cd (fun _ h=>absurd h Vn)))|(have Td:Chg [w.heap.size+2] w8 _:=Chg.trans (Chg.putRow (Chg.alloc Tb _) (w.heap.size+2) 0 _ (.inl (Vm rfl))) (Chg.mono cd (fun _ h=>absurd h Vn)))|(have Td:Chg [w.heap.size+2] w8 _:=Chg.trans (Chg.alloc (Chg.putRow Tb (w.heap.size+2) 0 _ (.inl (Vm rfl))) _) (Chg.mono cd (fun _ h=>absurd h Vn))));(first |(have rRd:=cd.keep rR Vn)|(have rRd:=cd.keep rRb Vn)|(have rRd:=Chg.keep ((Chg.refl [] _).alloc _ |>.trans cd) rR Vn)|(have rRd:=Chg.keep ((Chg.refl [] _).alloc _ |>.trans cd) rRb Vn)|(have rRd:=cd.keep (Xd rR rfl) Vn)|(have rRd:=cd.keep (Xd rRb rfl) Vn));(first |(have hA3:∀a,A2=some a→w8.heap.size≤a.block:=fun a ha=>Nat.le_trans (Chg.size Tb) (hA2 a ha))|(have hA3:∀a,A2=some a→w8.heap.size≤a.block:=fun a ha=>Nat.le_trans (Chg.size (Chg.putRow Tb (w.heap.size+2) 0 _ (.inl (Vm rfl)))) (hA2 a ha))|(have hA3:∀a,A2=some a→w8.heap.size≤a.block:=fun a ha=>hA2 a ha)|(have hA3:∀a,A2=some a→w8.heap.size≤a.block:=(by intro a ha;have:=hA2 a ha;simp at this;omega)))))
 all_goals
  go_wp2_with fail
  refine bodyPost_ret (Xx (by rfl) _ _ (w.heap.size+2) (Qdm x 2 c o) (0,0) (by rfl) (by first |(simp [rRd];done)|(simp [rRb];done)) _ _ (by rfl) (by rfl)) (by rfl) ?_
  exact Tz75
set_option maxHeartbeats 4000000 in
set_option maxRecDepth 100000 in
theorem rask_P1 (x:En) (c:Int) (m:Ms) (w:World) (o00:Old w 0) (g1:Xz x=true) (g2:isC c=true) (g3:mg m=true) (g4:Yc m.kd=true) (hb:x.bu=0) (hh:x.he=true) (h1:x.ow=c) (h2:m.di=true) (hk:m.kd=3):Calls Tryz.prog 114 #[.agg (ec x),.int .i64 c,.agg (msc m)] w (En3r w (putE x c m,0)):=by
 have t1:(x.bu !=0)=false:=by simp [hb]
 have hx8:=x.h
 have hm8:=m.h
 have s1:(m.kd==1)=false:=by simp [hk]
 have s2:(m.kd==2)=false:=by simp [hk]
 have s3:(m.kd==3)=true:=by simp [hk]
 have e1:(putE x c m,(0:Int))=((((x.setOw (-1)).setL m.l m.h).setDi true,[⟨c,ms4 11 m.li false false⟩]),0):=by
  have hs:x.sh=0#8:=by
   rcases Qgt g1 with h|⟨_,h⟩
   ·rw [h1] at h;rw [h] at g2;simp [isC] at g2
   ·exact h
  simp [putE,Zx,ZD,h1,h2,YB,g2,hs,En.setOw,En.setSh,En.setL,En.setDi]
 have q1:(x.ow==c)=true:=by simp [h1]
 rw [e1]
 clear e1 h1
 clear hk
 go_enter Tryz.func114,Tryz.ntmps114
 try dsimp only [List.append]
 go_wp2_with fail
 refine ZJ (w:=w) (b1:=w.heap.size) (x1:=.cells (ec (x)) 117 (0,0)) (b2:=w.heap.size+1) (x2:=.cells (msc m) 38 (0,0)) (b3:=w.heap.size+2) (x3:=.cells (ec (enZ)) 117 (0,0)) Cz0 (by simp [*]) (by simp [*]) (by simp [*]) fun w1 C1 rE rM rR=>?_
 have oE:=old rE
 have oM:=old rM
 have oR:=old rR
 refine (YY x _ g1 w1).mono ?_
 rintro e w3 ⟨rfl,c3⟩
 have rE3:=c3.keep rE (by simp)
 have rM3:=c3.keep rM (by simp)
 have rR3:=c3.keep rR (by simp)
 have C3:=C1.trans c3
 clear rE rM rR oE oM oR C1 c3
 have oE3:=old rE3
 have oM3:=old rM3
 have oR3:=old rR3
 go_wp2_with ((go_at_call 175;refine (YI _ _ g2 _).mono ?_;rintro e w' ⟨rfl,rfl⟩))
 refine (YN m _ g3 w3).mono ?_
 rintro e w4 ⟨rfl,c4⟩
 have rE4:=c4.keep rE3 (by simp)
 have rM4:=c4.keep rM3 (by simp)
 have rR4:=c4.keep rR3 (by simp)
 have C4:=C3.trans c4
 clear rE3 rM3 rR3 oE3 oM3 oR3 C3 c4
 have oE4:=old rE4
 have oM4:=old rM4
 have oR4:=old rR4
 clear g1 g2 g3
 go_upto_region 27 with (first |(go_at_call 177;refine (JI _ _ g4 _).mono ?_;rintro e w' ⟨rfl,rfl⟩)|(go_at_call 178;refine (X6 _ _).mono ?_;rintro e w' ⟨rfl,rfl⟩))
 refine XK (w:=w) (b1:=w.heap.size) (x1:=.cells (ec (((x.setOw (-1)).setL m.l m.h).setDi true)) 117 (0,0)) (b2:=w.heap.size+1) (x2:=.cells (msc m) 38 (0,0)) (b3:=w.heap.size+2) (x3:=.cells (ec (enZ)) 117 (0,0)) Cz0 (by simp (maxDischargeDepth:=8) [rE4,m.h]) (by simp (maxDischargeDepth:=8) [rE4,rM4,m.h]) (by simp (maxDischargeDepth:=8) [rE4,rR4,m.h]) fun w8 C8 rE rM rR=>?_
 have oE:=old rE
 have oM:=old rM
 have oR:=old rR
 go_region_held3 (fun w'=>w'.heap[w.heap.size]? =some (.cells (ec (((x.setOw (-1)).setL m.l m.h).setDi true)) 117 (0,0))∧w'.heap[w.heap.size+1]? =some (.cells (msc m) 38 (0,0))) (exact ⟨Chg.keep (l:=[w.heap.size+2]) (w:=w8) Cz3 rE (by simp),Chg.keep (l:=[w.heap.size+2]) (w:=w8) Cz3 rM (by simp)⟩)
  (first
   |(go_at_call 181;refine (J5 _ _ _ _).mono ?_;rintro e w' ⟨rfl,cc⟩;(first |(have Tc:Chg [w.heap.size+2] w8 _:=Chg.trans ((Chg.refl [w.heap.size+2] w8).drew) (Chg.mono cc (fun _ h=>absurd h Vn)))|(have Tc:Chg [w.heap.size+2] w8 _:=Chg.trans (Chg.alloc ((Chg.refl [w.heap.size+2] w8).drew) _) (Chg.mono cc (fun _ h=>absurd h Vn)))|(have Tc:Chg [w.heap.size+2] w8 _:=Chg.trans (Chg.putRow ((Chg.refl [w.heap.size+2] w8).drew) (w.heap.size+2) 0 _ (.inl (Vm rfl))) (Chg.mono cc (fun _ h=>absurd h Vn)))|(have Tc:Chg [w.heap.size+2] w8 _:=Chg.trans (Chg.putRow (Chg.alloc ((Chg.refl [w.heap.size+2] w8).drew) _) (w.heap.size+2) 0 _ (.inl (Vm rfl))) (Chg.mono cc (fun _ h=>absurd h Vn)))|(have Tc:Chg [w.heap.size+2] w8 _:=Chg.trans (Chg.alloc (Chg.putRow ((Chg.refl [w.heap.size+2] w8).drew) (w.heap.size+2) 0 _ (.inl (Vm rfl))) _) (Chg.mono cc (fun _ h=>absurd h Vn))));(first |(have rRc:=cc.keep rR Vn)|(have rRc:=Chg.keep ((Chg.refl [] _).alloc _ |>.trans cc) rR Vn)|(have rRc:=cc.keep (Xd rR rfl) Vn))))
 all_goals
  go_wp2_with fail
  refine bodyPost_ret (Xx (by rfl) _ _ (w.heap.size+2) (((x.setOw (-1)).setL m.l m.h).setDi true) (0,0) (by rfl) (by first |(simp [rRc];done)) _ _ (by rfl) (by rfl)) (by rfl) ?_
  exact Tz32
set_option maxHeartbeats 4000000 in
set_option maxRecDepth 100000 in
theorem rask_P2 (x:En) (c:Int) (m:Ms) (w:World) (o00:Old w 0) (g1:Xz x=true) (g2:isC c=true) (g3:mg m=true) (g4:Yc m.kd=true) (hb:x.bu=0) (hh:x.he=true) (h1:x.ow=c) (h2:m.di=false) (hk:m.kd=3):Calls Tryz.prog 114 #[.agg (ec x),.int .i64 c,.agg (msc m)] w (En3r w (putE x c m,0)):=by
 have t1:(x.bu !=0)=false:=by simp [hb]
 have hx8:=x.h
 have hm8:=m.h
 have s1:(m.kd==1)=false:=by simp [hk]
 have s2:(m.kd==2)=false:=by simp [hk]
 have s3:(m.kd==3)=true:=by simp [hk]
 have e1:(putE x c m,(0:Int))=((x.setOw (-1),[⟨c,ms4 11 m.li false false⟩]),0):=by
  have hs:x.sh=0#8:=by
   rcases Qgt g1 with h|⟨_,h⟩
   ·rw [h1] at h;rw [h] at g2;simp [isC] at g2
   ·exact h
  simp [putE,Zx,ZD,h1,h2,YB,g2,hs,En.setOw,En.setSh]
 have q1:(x.ow==c)=true:=by simp [h1]
 rw [e1]
 clear e1 h1
 clear hk
 go_enter Tryz.func114,Tryz.ntmps114
 try dsimp only [List.append]
 go_wp2_with fail
 refine ZJ (w:=w) (b1:=w.heap.size) (x1:=.cells (ec (x)) 117 (0,0)) (b2:=w.heap.size+1) (x2:=.cells (msc m) 38 (0,0)) (b3:=w.heap.size+2) (x3:=.cells (ec (enZ)) 117 (0,0)) Cz0 (by simp [*]) (by simp [*]) (by simp [*]) fun w1 C1 rE rM rR=>?_
 have oE:=old rE
 have oM:=old rM
 have oR:=old rR
 refine (YY x _ g1 w1).mono ?_
 rintro e w3 ⟨rfl,c3⟩
 have rE3:=c3.keep rE (by simp)
 have rM3:=c3.keep rM (by simp)
 have rR3:=c3.keep rR (by simp)
 have C3:=C1.trans c3
 clear rE rM rR oE oM oR C1 c3
 have oE3:=old rE3
 have oM3:=old rM3
 have oR3:=old rR3
 go_wp2_with ((go_at_call 175;refine (YI _ _ g2 _).mono ?_;rintro e w' ⟨rfl,rfl⟩))
 refine (YN m _ g3 w3).mono ?_
 rintro e w4 ⟨rfl,c4⟩
 have rE4:=c4.keep rE3 (by simp)
 have rM4:=c4.keep rM3 (by simp)
 have rR4:=c4.keep rR3 (by simp)
 have C4:=C3.trans c4
 clear rE3 rM3 rR3 oE3 oM3 oR3 C3 c4
 have oE4:=old rE4
 have oM4:=old rM4
 have oR4:=old rR4
 clear g1 g2 g3
 go_upto_region 27 with (first |(go_at_call 177;refine (JI _ _ g4 _).mono ?_;rintro e w' ⟨rfl,rfl⟩)|(go_at_call 178;refine (X6 _ _).mono ?_;rintro e w' ⟨rfl,rfl⟩))
 refine XK (w:=w) (b1:=w.heap.size) (x1:=.cells (ec (x.setOw (-1))) 117 (0,0)) (b2:=w.heap.size+1) (x2:=.cells (msc m) 38 (0,0)) (b3:=w.heap.size+2) (x3:=.cells (ec (enZ)) 117 (0,0)) Cz0 (by simp (maxDischargeDepth:=8) [rE4]) (by simp (maxDischargeDepth:=8) [rM4]) (by simp (maxDischargeDepth:=8) [rR4]) fun w8 C8 rE rM rR=>?_
 have oE:=old rE
 have oM:=old rM
 have oR:=old rR
 go_region_held3 (fun w'=>w'.heap[w.heap.size]? =some (.cells (ec (x.setOw (-1))) 117 (0,0))∧w'.heap[w.heap.size+1]? =some (.cells (msc m) 38 (0,0))) (exact ⟨Chg.keep (l:=[w.heap.size+2]) (w:=w8) Cz3 rE (by simp),Chg.keep (l:=[w.heap.size+2]) (w:=w8) Cz3 rM (by simp)⟩)
  (first
   |(go_at_call 181;refine (J5 _ _ _ _).mono ?_;rintro e w' ⟨rfl,cc⟩;(first |(have Tc:Chg [w.heap.size+2] w8 _:=Chg.trans ((Chg.refl [w.heap.size+2] w8).drew) (Chg.mono cc (fun _ h=>absurd h Vn)))|(have Tc:Chg [w.heap.size+2] w8 _:=Chg.trans (Chg.alloc ((Chg.refl [w.heap.size+2] w8).drew) _) (Chg.mono cc (fun _ h=>absurd h Vn)))|(have Tc:Chg [w.heap.size+2] w8 _:=Chg.trans (Chg.putRow ((Chg.refl [w.heap.size+2] w8).drew) (w.heap.size+2) 0 _ (.inl (Vm rfl))) (Chg.mono cc (fun _ h=>absurd h Vn)))|(have Tc:Chg [w.heap.size+2] w8 _:=Chg.trans (Chg.putRow (Chg.alloc ((Chg.refl [w.heap.size+2] w8).drew) _) (w.heap.size+2) 0 _ (.inl (Vm rfl))) (Chg.mono cc (fun _ h=>absurd h Vn)))|(have Tc:Chg [w.heap.size+2] w8 _:=Chg.trans (Chg.alloc (Chg.putRow ((Chg.refl [w.heap.size+2] w8).drew) (w.heap.size+2) 0 _ (.inl (Vm rfl))) _) (Chg.mono cc (fun _ h=>absurd h Vn))));(first |(have rRc:=cc.keep rR Vn)|(have rRc:=Chg.keep ((Chg.refl [] _).alloc _ |>.trans cc) rR Vn)|(have rRc:=cc.keep (Xd rR rfl) Vn))))
 all_goals
  go_wp2_with fail
  refine bodyPost_ret (Xx (by rfl) _ _ (w.heap.size+2) (x.setOw (-1)) (0,0) (by rfl) (by first |(simp [rRc];done)) _ _ (by rfl) (by rfl)) (by rfl) ?_
  exact Tz32
set_option maxHeartbeats 4000000 in
set_option maxRecDepth 100000 in
theorem rask_P3 (x:En) (c:Int) (m:Ms) (w:World) (o00:Old w 0) (g1:Xz x=true) (g2:isC c=true) (g3:mg m=true) (g4:Yc m.kd=true) (hb:x.bu=0) (hh:x.he=true) (h1:¬x.ow=c) (hk:m.kd=3):Calls Tryz.prog 114 #[.agg (ec x),.int .i64 c,.agg (msc m)] w (En3r w (putE x c m,0)):=by
 have t1:(x.bu !=0)=false:=by simp [hb]
 have hx8:=x.h
 have hm8:=m.h
 have s1:(m.kd==1)=false:=by simp [hk]
 have s2:(m.kd==2)=false:=by simp [hk]
 have s3:(m.kd==3)=true:=by simp [hk]
 have e1:(putE x c m,(0:Int))=((x.setSh (x.sh&&& ~~~(bitM c)),[⟨c,ms4 11 m.li false false⟩]),0):=by
  simp [putE,Zx,h1,YB,g2]
 have q1:(x.ow==c)=false:=by simp [h1]
 rw [e1]
 clear e1 h1
 clear hk
 go_enter Tryz.func114,Tryz.ntmps114
 try dsimp only [List.append]
 go_wp2_with fail
 refine ZJ (w:=w) (b1:=w.heap.size) (x1:=.cells (ec (x)) 117 (0,0)) (b2:=w.heap.size+1) (x2:=.cells (msc m) 38 (0,0)) (b3:=w.heap.size+2) (x3:=.cells (ec (enZ)) 117 (0,0)) Cz0 (by simp [*]) (by simp [*]) (by simp [*]) fun w1 C1 rE rM rR=>?_
 have oE:=old rE
 have oM:=old rM
 have oR:=old rR
 refine (YY x _ g1 w1).mono ?_
 rintro e w3 ⟨rfl,c3⟩
 have rE3:=c3.keep rE (by simp)
 have rM3:=c3.keep rM (by simp)
 have rR3:=c3.keep rR (by simp)
 have C3:=C1.trans c3
 clear rE rM rR oE oM oR C1 c3
 have oE3:=old rE3
 have oM3:=old rM3
 have oR3:=old rR3
 go_wp2_with ((go_at_call 175;refine (YI _ _ g2 _).mono ?_;rintro e w' ⟨rfl,rfl⟩))
 refine (YN m _ g3 w3).mono ?_
 rintro e w4 ⟨rfl,c4⟩
 have rE4:=c4.keep rE3 (by simp)
 have rM4:=c4.keep rM3 (by simp)
 have rR4:=c4.keep rR3 (by simp)
 have C4:=C3.trans c4
 clear rE3 rM3 rR3 oE3 oM3 oR3 C3 c4
 have oE4:=old rE4
 have oM4:=old rM4
 have oR4:=old rR4
 clear g1 g2 g3
 go_upto_region 27 with (first |(go_at_call 177;refine (JI _ _ g4 _).mono ?_;rintro e w' ⟨rfl,rfl⟩)|(go_at_call 178;refine (X6 _ _).mono ?_;rintro e w' ⟨rfl,rfl⟩))
 refine XK (w:=w) (b1:=w.heap.size) (x1:=.cells (ec (x.setSh (x.sh&&& ~~~(bitM c)))) 117 (0,0)) (b2:=w.heap.size+1) (x2:=.cells (msc m) 38 (0,0)) (b3:=w.heap.size+2) (x3:=.cells (ec (enZ)) 117 (0,0)) Cz0 (by simp (maxDischargeDepth:=8) [rE4]) (by simp (maxDischargeDepth:=8) [rM4]) (by simp (maxDischargeDepth:=8) [rR4]) fun w8 C8 rE rM rR=>?_
 have oE:=old rE
 have oM:=old rM
 have oR:=old rR
 go_region_held3 (fun w'=>w'.heap[w.heap.size]? =some (.cells (ec (x.setSh (x.sh&&& ~~~(bitM c)))) 117 (0,0))∧w'.heap[w.heap.size+1]? =some (.cells (msc m) 38 (0,0))) (exact ⟨Chg.keep (l:=[w.heap.size+2]) (w:=w8) Cz3 rE (by simp),Chg.keep (l:=[w.heap.size+2]) (w:=w8) Cz3 rM (by simp)⟩)
  (first
   |(go_at_call 181;refine (J5 _ _ _ _).mono ?_;rintro e w' ⟨rfl,cc⟩;(first |(have Tc:Chg [w.heap.size+2] w8 _:=Chg.trans ((Chg.refl [w.heap.size+2] w8).drew) (Chg.mono cc (fun _ h=>absurd h Vn)))|(have Tc:Chg [w.heap.size+2] w8 _:=Chg.trans (Chg.alloc ((Chg.refl [w.heap.size+2] w8).drew) _) (Chg.mono cc (fun _ h=>absurd h Vn)))|(have Tc:Chg [w.heap.size+2] w8 _:=Chg.trans (Chg.putRow ((Chg.refl [w.heap.size+2] w8).drew) (w.heap.size+2) 0 _ (.inl (Vm rfl))) (Chg.mono cc (fun _ h=>absurd h Vn)))|(have Tc:Chg [w.heap.size+2] w8 _:=Chg.trans (Chg.putRow (Chg.alloc ((Chg.refl [w.heap.size+2] w8).drew) _) (w.heap.size+2) 0 _ (.inl (Vm rfl))) (Chg.mono cc (fun _ h=>absurd h Vn)))|(have Tc:Chg [w.heap.size+2] w8 _:=Chg.trans (Chg.alloc (Chg.putRow ((Chg.refl [w.heap.size+2] w8).drew) (w.heap.size+2) 0 _ (.inl (Vm rfl))) _) (Chg.mono cc (fun _ h=>absurd h Vn))));(first |(have rRc:=cc.keep rR Vn)|(have rRc:=Chg.keep ((Chg.refl [] _).alloc _ |>.trans cc) rR Vn)|(have rRc:=cc.keep (Xd rR rfl) Vn))))
 all_goals
  go_wp2_with fail
  refine bodyPost_ret (Xx (by rfl) _ _ (w.heap.size+2) (x.setSh (x.sh&&& ~~~(bitM c))) (0,0) (by rfl) (by first |(simp [rRc];done)) _ _ (by rfl) (by rfl)) (by rfl) ?_
  exact Tz32
set_option maxHeartbeats 4000000 in
set_option maxRecDepth 100000 in
theorem rask_C (x:En) (c:Int) (m:Ms) (w:World) (o00:Old w 0) (g1:Xz x=true) (g2:isC c=true) (g3:mg m=true) (g4:Yc m.kd=true) (hb:x.bu=0) (hh:x.he=true) (hk:m.kd=4):Calls Tryz.prog 114 #[.agg (ec x),.int .i64 c,.agg (msc m)] w (En3r w (Qdb x c m,0)):=by
 have t1:(x.bu !=0)=false:=by simp [hb]
 have hx8:=x.h
 have hm8:=m.h
 have s1:(m.kd==1)=false:=by simp [hk]
 have s2:(m.kd==2)=false:=by simp [hk]
 have s3:(m.kd==3)=false:=by simp [hk]
 have s4:(m.kd==4)=true:=by simp [hk]
 have e1:(Qdb x c m,(0:Int))=((Qdm x 4 c (bitM x.ow),Xf (bitM x.ow) (ms4 13 m.li false false)),0):=by
  simp [Qdb,Y4,Qdm,hk]
 rw [e1]
 clear e1
 clear hk
 go_enter Tryz.func114,Tryz.ntmps114
 try dsimp only [List.append]
 go_wp2_with fail
 refine ZJ (w:=w) (b1:=w.heap.size) (x1:=.cells (ec (x)) 117 (0,0)) (b2:=w.heap.size+1) (x2:=.cells (msc m) 38 (0,0)) (b3:=w.heap.size+2) (x3:=.cells (ec (enZ)) 117 (0,0)) Cz0 (by simp [*]) (by simp [*]) (by simp [*]) fun w1 C1 rE rM rR=>?_
 have oE:=old rE
 have oM:=old rM
 have oR:=old rR
 refine (YY x _ g1 w1).mono ?_
 rintro e w3 ⟨rfl,c3⟩
 have rE3:=c3.keep rE (by simp)
 have rM3:=c3.keep rM (by simp)
 have rR3:=c3.keep rR (by simp)
 have C3:=C1.trans c3
 clear rE rM rR oE oM oR C1 c3
 have oE3:=old rE3
 have oM3:=old rM3
 have oR3:=old rR3
 go_wp2_with ((go_at_call 175;refine (YI _ _ g2 _).mono ?_;rintro e w' ⟨rfl,rfl⟩))
 refine (YN m _ g3 w3).mono ?_
 rintro e w4 ⟨rfl,c4⟩
 have rE4:=c4.keep rE3 (by simp)
 have rM4:=c4.keep rM3 (by simp)
 have rR4:=c4.keep rR3 (by simp)
 have C4:=C3.trans c4
 clear rE3 rM3 rR3 oE3 oM3 oR3 C3 c4
 have oE4:=old rE4
 have oM4:=old rM4
 have oR4:=old rR4
 clear g1 g2 g3
 go_upto_region 29 with (first |(go_at_call 177;refine (JI _ _ g4 _).mono ?_;rintro e w' ⟨rfl,rfl⟩)|(go_at_call 178;refine (X6 _ _).mono ?_;rintro e w' ⟨rfl,rfl⟩))
 refine XK (w:=w) (b1:=w.heap.size) (x1:=.cells (ec (x)) 117 (0,0)) (b2:=w.heap.size+1) (x2:=.cells (msc m) 38 (0,0)) (b3:=w.heap.size+2) (x3:=.cells (ec (enZ)) 117 (0,0)) Cz0 (by simp [*]) (by simp [*]) (by simp [*]) fun w8 C8 rE rM rR=>?_
 have oE:=old rE
 have oM:=old rM
 have oR:=old rR
 have o0:=o00.chg C8
 go_region_held3 (fun w'=>w'.heap[w.heap.size]? =some (.cells (ec (x)) 117 (0,0))∧w'.heap[w.heap.size+1]? =some (.cells (msc m) 38 (0,0))) (exact ⟨Chg.keep (l:=[w.heap.size+2]) (w:=w8) Cz19 rE (by simp),Chg.keep (l:=[w.heap.size+2]) (w:=w8) Cz19 rM (by simp)⟩)
  (first
   |(go_at_call 180;refine (Qbb _ _).mono ?_;rintro e w' ⟨rfl,ca⟩;(first |(have Ta:Chg [w.heap.size+2] w8 _:=Chg.trans ((Chg.refl [w.heap.size+2] w8).drew) (Chg.mono ca (fun _ h=>absurd h Vn)))|(have Ta:Chg [w.heap.size+2] w8 _:=Chg.trans (Chg.alloc ((Chg.refl [w.heap.size+2] w8).drew) _) (Chg.mono ca (fun _ h=>absurd h Vn)))|(have Ta:Chg [w.heap.size+2] w8 _:=Chg.trans (Chg.putRow ((Chg.refl [w.heap.size+2] w8).drew) (w.heap.size+2) 0 _ (.inl (Vm rfl))) (Chg.mono ca (fun _ h=>absurd h Vn)))|(have Ta:Chg [w.heap.size+2] w8 _:=Chg.trans (Chg.putRow (Chg.alloc ((Chg.refl [w.heap.size+2] w8).drew) _) (w.heap.size+2) 0 _ (.inl (Vm rfl))) (Chg.mono ca (fun _ h=>absurd h Vn)))|(have Ta:Chg [w.heap.size+2] w8 _:=Chg.trans (Chg.alloc (Chg.putRow ((Chg.refl [w.heap.size+2] w8).drew) (w.heap.size+2) 0 _ (.inl (Vm rfl))) _) (Chg.mono ca (fun _ h=>absurd h Vn)))|(have Ta:Chg [w.heap.size+2] w8 _:=Chg.trans Ta (Chg.mono ca (fun _ h=>absurd h Vn)))|(have Ta:Chg [w.heap.size+2] w8 _:=Chg.trans (Chg.alloc Ta _) (Chg.mono ca (fun _ h=>absurd h Vn)))|(have Ta:Chg [w.heap.size+2] w8 _:=Chg.trans (Chg.putRow Ta (w.heap.size+2) 0 _ (.inl (Vm rfl))) (Chg.mono ca (fun _ h=>absurd h Vn)))|(have Ta:Chg [w.heap.size+2] w8 _:=Chg.trans (Chg.putRow (Chg.alloc Ta _) (w.heap.size+2) 0 _ (.inl (Vm rfl))) (Chg.mono ca (fun _ h=>absurd h Vn)))|(have Ta:Chg [w.heap.size+2] w8 _:=Chg.trans (Chg.alloc (Chg.putRow Ta (w.heap.size+2) 0 _ (.inl (Vm rfl))) _) (Chg.mono ca (fun _ h=>absurd h Vn)))|(have Ta:Chg [w.heap.size+2] w8 _:=Chg.trans Tb (Chg.mono ca (fun _ h=>absurd h Vn)))|(have Ta:Chg [w.heap.size+2] w8 _:=Chg.trans (Chg.alloc Tb _) (Chg.mono ca (fun _ h=>absurd h Vn)))|(have Ta:Chg [w.heap.size+2] w8 _:=Chg.trans (Chg.putRow Tb (w.heap.size+2) 0 _ (.inl (Vm rfl))) (Chg.mono ca (fun _ h=>absurd h Vn)))|(have Ta:Chg [w.heap.size+2] w8 _:=Chg.trans (Chg.putRow (Chg.alloc Tb _) (w.heap.size+2) 0 _ (.inl (Vm rfl))) (Chg.mono ca (fun _ h=>absurd h Vn)))|(have Ta:Chg [w.heap.size+2] w8 _:=Chg.trans (Chg.alloc (Chg.putRow Tb (w.heap.size+2) 0 _ (.inl (Vm rfl))) _) (Chg.mono ca (fun _ h=>absurd h Vn)))|(have Ta:Chg [w.heap.size+2] w8 _:=Chg.trans Td (Chg.mono ca (fun _ h=>absurd h Vn)))|(have Ta:Chg [w.heap.size+2] w8 _:=Chg.trans (Chg.alloc Td _) (Chg.mono ca (fun _ h=>absurd h Vn)))|(have Ta:Chg [w.heap.size+2] w8 _:=Chg.trans (Chg.putRow Td (w.heap.size+2) 0 _ (.inl (Vm rfl))) (Chg.mono ca (fun _ h=>absurd h Vn)))|(have Ta:Chg [w.heap.size+2] w8 _:=Chg.trans (Chg.putRow (Chg.alloc Td _) (w.heap.size+2) 0 _ (.inl (Vm rfl))) (Chg.mono ca (fun _ h=>absurd h Vn)))|(have Ta:Chg [w.heap.size+2] w8 _:=Chg.trans (Chg.alloc (Chg.putRow Td (w.heap.size+2) 0 _ (.inl (Vm rfl))) _) (Chg.mono ca (fun _ h=>absurd h Vn))));(first |(have rRa:=ca.keep rR Vn)|(have rRa:=ca.keep rRa Vn)|(have rRa:=ca.keep rRb Vn)|(have rRa:=ca.keep rRd Vn)|(have rRa:=Chg.keep ((Chg.refl [] _).alloc _ |>.trans ca) rR Vn)|(have rRa:=Chg.keep ((Chg.refl [] _).alloc _ |>.trans ca) rRa Vn)|(have rRa:=Chg.keep ((Chg.refl [] _).alloc _ |>.trans ca) rRb Vn)|(have rRa:=Chg.keep ((Chg.refl [] _).alloc _ |>.trans ca) rRd Vn)|(have rRa:=ca.keep (Xd rR rfl) Vn)|(have rRa:=ca.keep (Xd rRa rfl) Vn)|(have rRa:=ca.keep (Xd rRb rfl) Vn)|(have rRa:=ca.keep (Xd rRd rfl) Vn)))
   |(go_at_call 179;refine (Qcd _ _ _ _ _).mono ?_;rintro e w' ⟨rfl,cb⟩;(first |(have Tb:Chg [w.heap.size+2] w8 _:=Chg.trans ((Chg.refl [w.heap.size+2] w8).drew) (Chg.mono cb (fun _ h=>absurd h Vn)))|(have Tb:Chg [w.heap.size+2] w8 _:=Chg.trans (Chg.alloc ((Chg.refl [w.heap.size+2] w8).drew) _) (Chg.mono cb (fun _ h=>absurd h Vn)))|(have Tb:Chg [w.heap.size+2] w8 _:=Chg.trans (Chg.putRow ((Chg.refl [w.heap.size+2] w8).drew) (w.heap.size+2) 0 _ (.inl (Vm rfl))) (Chg.mono cb (fun _ h=>absurd h Vn)))|(have Tb:Chg [w.heap.size+2] w8 _:=Chg.trans (Chg.putRow (Chg.alloc ((Chg.refl [w.heap.size+2] w8).drew) _) (w.heap.size+2) 0 _ (.inl (Vm rfl))) (Chg.mono cb (fun _ h=>absurd h Vn)))|(have Tb:Chg [w.heap.size+2] w8 _:=Chg.trans (Chg.alloc (Chg.putRow ((Chg.refl [w.heap.size+2] w8).drew) (w.heap.size+2) 0 _ (.inl (Vm rfl))) _) (Chg.mono cb (fun _ h=>absurd h Vn)))|(have Tb:Chg [w.heap.size+2] w8 _:=Chg.trans Ta (Chg.mono cb (fun _ h=>absurd h Vn)))|(have Tb:Chg [w.heap.size+2] w8 _:=Chg.trans (Chg.alloc Ta _) (Chg.mono cb (fun _ h=>absurd h Vn)))|(have Tb:Chg [w.heap.size+2] w8 _:=Chg.trans (Chg.putRow Ta (w.heap.size+2) 0 _ (.inl (Vm rfl))) (Chg.mono cb (fun _ h=>absurd h Vn)))|(have Tb:Chg [w.heap.size+2] w8 _:=Chg.trans (Chg.putRow (Chg.alloc Ta _) (w.heap.size+2) 0 _ (.inl (Vm rfl))) (Chg.mono cb (fun _ h=>absurd h Vn)))|(have Tb:Chg [w.heap.size+2] w8 _:=Chg.trans (Chg.alloc (Chg.putRow Ta (w.heap.size+2) 0 _ (.inl (Vm rfl))) _) (Chg.mono cb (fun _ h=>absurd h Vn)))|(have Tb:Chg [w.heap.size+2] w8 _:=Chg.trans Td (Chg.mono cb (fun _ h=>absurd h Vn)))|(have Tb:Chg [w.heap.size+2] w8 _:=Chg.trans (Chg.alloc Td _) (Chg.mono cb (fun _ h=>absurd h Vn)))|(have Tb:Chg [w.heap.size+2] w8 _:=Chg.trans (Chg.putRow Td (w.heap.size+2) 0 _ (.inl (Vm rfl))) (Chg.mono cb (fun _ h=>absurd h Vn)))|(have Tb:Chg [w.heap.size+2] w8 _:=Chg.trans (Chg.putRow (Chg.alloc Td _) (w.heap.size+2) 0 _ (.inl (Vm rfl))) (Chg.mono cb (fun _ h=>absurd h Vn)))|(have Tb:Chg [w.heap.size+2] w8 _:=Chg.trans (Chg.alloc (Chg.putRow Td (w.heap.size+2) 0 _ (.inl (Vm rfl))) _) (Chg.mono cb (fun _ h=>absurd h Vn))));(first |(have rRb:=cb.keep rR Vn)|(have rRb:=cb.keep rRa Vn)|(have rRb:=cb.keep rRd Vn)|(have rRb:=Chg.keep ((Chg.refl [] _).alloc _ |>.trans cb) rR Vn)|(have rRb:=Chg.keep ((Chg.refl [] _).alloc _ |>.trans cb) rRa Vn)|(have rRb:=Chg.keep ((Chg.refl [] _).alloc _ |>.trans cb) rRd Vn)|(have rRb:=cb.keep (Xd rR rfl) Vn)|(have rRb:=cb.keep (Xd rRa rfl) Vn)|(have rRb:=cb.keep (Xd rRd rfl) Vn)))
   |(go_at_call 183;refine (rall_any _ _ _ _ ?_).mono ?_;(first |exact o0|exact Nat.lt_of_lt_of_le o0.lt (Chg.size Ta)|exact Nat.lt_of_lt_of_le o0.lt (Chg.size Tb)|exact Nat.lt_of_lt_of_le o0.lt (Chg.size (Chg.putRow Ta (w.heap.size+2) 0 _ (.inl (Vm rfl))))|exact Nat.lt_of_lt_of_le o0.lt (Chg.size (Chg.putRow Tb (w.heap.size+2) 0 _ (.inl (Vm rfl)))));rintro e w' ⟨A2,n2,rfl,hs2,hA2,cd⟩;(first |(have Td:Chg [w.heap.size+2] w8 _:=Chg.trans ((Chg.refl [w.heap.size+2] w8).drew) (Chg.mono cd (fun _ h=>absurd h Vn)))|(have Td:Chg [w.heap.size+2] w8 _:=Chg.trans (Chg.alloc ((Chg.refl [w.heap.size+2] w8).drew) _) (Chg.mono cd (fun _ h=>absurd h Vn)))|(have Td:Chg [w.heap.size+2] w8 _:=Chg.trans (Chg.putRow ((Chg.refl [w.heap.size+2] w8).drew) (w.heap.size+2) 0 _ (.inl (Vm rfl))) (Chg.mono cd (fun _ h=>absurd h Vn)))|(have Td:Chg [w.heap.size+2] w8 _:=Chg.trans (Chg.putRow (Chg.alloc ((Chg.refl [w.heap.size+2] w8).drew) _) (w.heap.size+2) 0 _ (.inl (Vm rfl))) (Chg.mono cd (fun _ h=>absurd h Vn)))|(have Td:Chg [w.heap.size+2] w8 _:=Chg.trans (Chg.alloc (Chg.putRow ((Chg.refl [w.heap.size+2] w8).drew) (w.heap.size+2) 0 _ (.inl (Vm rfl))) _) (Chg.mono cd (fun _ h=>absurd h Vn)))|(have Td:Chg [w.heap.size+2] w8 _:=Chg.trans Ta (Chg.mono cd (fun _ h=>absurd h Vn)))|(have Td:Chg [w.heap.size+2] w8 _:=Chg.trans (Chg.alloc Ta _) (Chg.mono cd (fun _ h=>absurd h Vn)))|(have Td:Chg [w.heap.size+2] w8 _:=Chg.trans (Chg.putRow Ta (w.heap.size+2) 0 _ (.inl (Vm rfl))) (Chg.mono cd (fun _ h=>absurd h Vn)))|(have Td:Chg [w.heap.size+2] w8 _:=Chg.trans (Chg.putRow (Chg.alloc Ta _) (w.heap.size+2) 0 _ (.inl (Vm rfl))) (Chg.mono cd (fun _ h=>absurd h Vn)))|(have Td:Chg [w.heap.size+2] w8 _:=Chg.trans (Chg.alloc (Chg.putRow Ta (w.heap.size+2) 0 _ (.inl (Vm rfl))) _) (Chg.mono cd (fun _ h=>absurd h Vn)))|(have Td:Chg [w.heap.size+2] w8 _:=Chg.trans Tb (Chg.mono cd (fun _ h=>absurd h Vn)))|(have Td:Chg [w.heap.size+2] w8 _:=Chg.trans (Chg.alloc Tb _) (Chg.mono cd (fun _ h=>absurd h Vn)))|(have Td:Chg [w.heap.size+2] w8 _:=Chg.trans (Chg.putRow Tb (w.heap.size+2) 0 _ (.inl (Vm rfl))) (Chg.mono cd (fun _ h=>absurd h Vn)))|(have Td:Chg [w.heap.size+2] w8 _:=Chg.trans (Chg.putRow (Chg.alloc Tb _) (w.heap.size+2) 0 _ (.inl (Vm rfl))) (Chg.mono cd (fun _ h=>absurd h Vn)))|(have Td:Chg [w.heap.size+2] w8 _:=Chg.trans (Chg.alloc (Chg.putRow Tb (w.heap.size+2) 0 _ (.inl (Vm rfl))) _) (Chg.mono cd (fun _ h=>absurd h Vn))));(first |(have rRd:=cd.keep rR Vn)|(have rRd:=cd.keep rRa Vn)|(have rRd:=cd.keep rRb Vn)|(have rRd:=Chg.keep ((Chg.refl [] _).alloc _ |>.trans cd) rR Vn)|(have rRd:=Chg.keep ((Chg.refl [] _).alloc _ |>.trans cd) rRa Vn)|(have rRd:=Chg.keep ((Chg.refl [] _).alloc _ |>.trans cd) rRb Vn)|(have rRd:=cd.keep (Xd rR rfl) Vn)|(have rRd:=cd.keep (Xd rRa rfl) Vn)|(have rRd:=cd.keep (Xd rRb rfl) Vn));(first |(have hA3:∀a,A2=some a→w8.heap.size≤a.block:=fun a ha=>Nat.le_trans (Chg.size Ta) (hA2 a ha))|(have hA3:∀a,A2=some a→w8.heap.size≤a.block:=fun a ha=>Nat.le_trans (Chg.size Tb) (hA2 a ha))|(have hA3:∀a,A2=some a→w8.heap.size≤a.block:=fun a ha=>Nat.le_trans (Chg.size (Chg.putRow Ta (w.heap.size+2) 0 _ (.inl (Vm rfl)))) (hA2 a ha))|(have hA3:∀a,A2=some a→w8.heap.size≤a.block:=fun a ha=>Nat.le_trans (Chg.size (Chg.putRow Tb (w.heap.size+2) 0 _ (.inl (Vm rfl)))) (hA2 a ha))|(have hA3:∀a,A2=some a→w8.heap.size≤a.block:=fun a ha=>hA2 a ha)|(have hA3:∀a,A2=some a→w8.heap.size≤a.block:=(by intro a ha;have:=hA2 a ha;simp at this;omega)))))
 all_goals
  go_wp2_with fail
  refine bodyPost_ret (Xx (by rfl) _ _ (w.heap.size+2) (Qdm x 4 c (bitM x.ow)) (0,0) (by rfl) (by first |(simp [rRd];done)|(simp [rRb];done)|(simp [rRa];done)) _ _ (by rfl) (by rfl)) (by rfl) ?_
  first
   |exact En3r.S C8 oR (by omega) hs2 hA3 Td (Chg.refl _ _)
   |exact En3r.S C8 oR (by omega) hs2 hA3 Td (Chg.putRow (Chg.refl _ _) (w.heap.size+2) 0 _ (.inl (Vm rfl)))
   |exact En3r.S C8 oR (by omega) hs2 hA3 Td (Chg.mono cb (fun _ h=>absurd h Vn))
   |exact En3r.S C8 oR (by omega) hs2 hA3 Td (Chg.putRow (Chg.mono cb (fun _ h=>absurd h Vn)) (w.heap.size+2) 0 _ (.inl (Vm rfl)))
   |exact En3r.S C8 oR (by omega) hs2 hA3 Td (Chg.trans ca cb)
   |exact En3r.S C8 oR (by omega) hs2 hA3 Td (Chg.putRow (Chg.trans ca cb) (w.heap.size+2) 0 _ (.inl (Vm rfl)))
   |exact En3r.S C8 oR (by omega) hs2 hA3 Td (Chg.mono ca (fun _ h=>absurd h Vn))
   |exact En3r.S C8 oR (by omega) hs2 hA3 Td (Chg.putRow (Chg.mono ca (fun _ h=>absurd h Vn)) (w.heap.size+2) 0 _ (.inl (Vm rfl)))
set_option maxHeartbeats 4000000 in
set_option maxRecDepth 100000 in
theorem rask_W (x:En) (c:Int) (m:Ms) (w:World) (o00:Old w 0) (g1:Xz x=true) (g2:isC c=true) (g3:mg m=true) (g4:Yc m.kd=true) (hb:x.bu=0) (hh:x.he=true) (hk:m.kd=5):Calls Tryz.prog 114 #[.agg (ec x),.int .i64 c,.agg (msc m)] w (En3r w (wipeE x c m,0)):=by
 have t1:(x.bu !=0)=false:=by simp [hb]
 have hx8:=x.h
 have hm8:=m.h
 have s1:(m.kd==1)=false:=by simp [hk]
 have s2:(m.kd==2)=false:=by simp [hk]
 have s3:(m.kd==3)=false:=by simp [hk]
 have s4:(m.kd==4)=false:=by simp [hk]
 have e1:(wipeE x c m,(0:Int))=((Qdm x 5 c (bitM x.ow|||x.sh),Xf (bitM x.ow|||x.sh) (ms4 12 m.li false false)),0):=by
  simp [wipeE,Y4,Qdm,hk,XH,or_bits]
 rw [e1]
 clear e1
 generalize hoo:(bitM x.ow|||x.sh)=o at *
 clear hk
 go_enter Tryz.func114,Tryz.ntmps114
 try dsimp only [List.append]
 go_wp2_with fail
 refine ZJ (w:=w) (b1:=w.heap.size) (x1:=.cells (ec (x)) 117 (0,0)) (b2:=w.heap.size+1) (x2:=.cells (msc m) 38 (0,0)) (b3:=w.heap.size+2) (x3:=.cells (ec (enZ)) 117 (0,0)) Cz0 (by simp [*]) (by simp [*]) (by simp [*]) fun w1 C1 rE rM rR=>?_
 have oE:=old rE
 have oM:=old rM
 have oR:=old rR
 refine (YY x _ g1 w1).mono ?_
 rintro e w3 ⟨rfl,c3⟩
 have rE3:=c3.keep rE (by simp)
 have rM3:=c3.keep rM (by simp)
 have rR3:=c3.keep rR (by simp)
 have C3:=C1.trans c3
 clear rE rM rR oE oM oR C1 c3
 have oE3:=old rE3
 have oM3:=old rM3
 have oR3:=old rR3
 go_wp2_with ((go_at_call 175;refine (YI _ _ g2 _).mono ?_;rintro e w' ⟨rfl,rfl⟩))
 refine (YN m _ g3 w3).mono ?_
 rintro e w4 ⟨rfl,c4⟩
 have rE4:=c4.keep rE3 (by simp)
 have rM4:=c4.keep rM3 (by simp)
 have rR4:=c4.keep rR3 (by simp)
 have C4:=C3.trans c4
 clear rE3 rM3 rR3 oE3 oM3 oR3 C3 c4
 have oE4:=old rE4
 have oM4:=old rM4
 have oR4:=old rR4
 clear g1 g2 g3
 go_upto_region 30 with (first |(go_at_call 177;refine (JI _ _ g4 _).mono ?_;rintro e w' ⟨rfl,rfl⟩)|(go_at_call 178;refine (X6 _ _).mono ?_;rintro e w' ⟨rfl,rfl⟩))
 have hx:∀y:Aft w4.heap.size w4,y.w.heap[w.heap.size]? =some (.cells (ec (x)) 117 (0,0)):=fun y=>(y.block oE4.lt).trans rE4
 have hxm:∀y:Aft w4.heap.size w4,y.w.heap[w.heap.size+1]? =some (.cells (msc m) 38 (0,0)):=fun y=>(y.block oM4.lt).trans rM4
 have hxr:∀y:Aft w4.heap.size w4,y.w.heap[w.heap.size+2]? =some (.cells (ec (enZ)) 117 (0,0)):=fun y=>(y.block oR4.lt).trans rR4
 refine YV w4.heap.size (by kernel_rfl) (by kernel_rfl) ?_
 repeat (go_big_quiet_step (first
  |(go_at_call 180;exact Qc4 (Nat.le_refl _) (Qbb x _))))
 refine wpQuiet_nil ?_
 rintro _ ⟨y,rfl⟩
 have rE:=hx y
 have rM:=hxm y
 have rR:=hxr y
 have C8:=C4.trans (Below.chg y.below (Nat.le_refl _))
 generalize hw8:y.w=w8 at *
 clear hx hxm hxr rE4 rM4 rR4 oE4 oM4 oR4 C4 hw8 y
 have oE:=old rE
 have oM:=old rM
 have oR:=old rR
 have o0:=o00.chg C8
 go_upto_region 31 with fail
 go_region_held3 (fun w'=>w'.heap[w.heap.size]? =some (.cells (ec (x)) 117 (0,0))∧w'.heap[w.heap.size+1]? =some (.cells (msc m) 38 (0,0))) (exact ⟨Chg.keep (l:=[w.heap.size+2]) (w:=w8) Cz10 rE (by simp),Chg.keep (l:=[w.heap.size+2]) (w:=w8) Cz10 rM (by simp)⟩)
  (first
   |(go_at_call 179;refine (Qcd _ _ _ _ _).mono ?_;rintro e w' ⟨rfl,cb⟩;(first |(have Tb:Chg [w.heap.size+2] w8 _:=Chg.trans ((Chg.refl [w.heap.size+2] w8).drew) (Chg.mono cb (fun _ h=>absurd h Vn)))|(have Tb:Chg [w.heap.size+2] w8 _:=Chg.trans (Chg.alloc ((Chg.refl [w.heap.size+2] w8).drew) _) (Chg.mono cb (fun _ h=>absurd h Vn)))|(have Tb:Chg [w.heap.size+2] w8 _:=Chg.trans (Chg.putRow ((Chg.refl [w.heap.size+2] w8).drew) (w.heap.size+2) 0 _ (.inl (Vm rfl))) (Chg.mono cb (fun _ h=>absurd h Vn)))|(have Tb:Chg [w.heap.size+2] w8 _:=Chg.trans (Chg.putRow (Chg.alloc ((Chg.refl [w.heap.size+2] w8).drew) _) (w.heap.size+2) 0 _ (.inl (Vm rfl))) (Chg.mono cb (fun _ h=>absurd h Vn)))|(have Tb:Chg [w.heap.size+2] w8 _:=Chg.trans (Chg.alloc (Chg.putRow ((Chg.refl [w.heap.size+2] w8).drew) (w.heap.size+2) 0 _ (.inl (Vm rfl))) _) (Chg.mono cb (fun _ h=>absurd h Vn)))|(have Tb:Chg [w.heap.size+2] w8 _:=Chg.trans Td (Chg.mono cb (fun _ h=>absurd h Vn)))|(have Tb:Chg [w.heap.size+2] w8 _:=Chg.trans (Chg.alloc Td _) (Chg.mono cb (fun _ h=>absurd h Vn)))|(have Tb:Chg [w.heap.size+2] w8 _:=Chg.trans (Chg.putRow Td (w.heap.size+2) 0 _ (.inl (Vm rfl))) (Chg.mono cb (fun _ h=>absurd h Vn)))|(have Tb:Chg [w.heap.size+2] w8 _:=Chg.trans (Chg.putRow (Chg.alloc Td _) (w.heap.size+2) 0 _ (.inl (Vm rfl))) (Chg.mono cb (fun _ h=>absurd h Vn)))|(have Tb:Chg [w.heap.size+2] w8 _:=Chg.trans (Chg.alloc (Chg.putRow Td (w.heap.size+2) 0 _ (.inl (Vm rfl))) _) (Chg.mono cb (fun _ h=>absurd h Vn))));(first |(have rRb:=cb.keep rR Vn)|(have rRb:=cb.keep rRd Vn)|(have rRb:=Chg.keep ((Chg.refl [] _).alloc _ |>.trans cb) rR Vn)|(have rRb:=Chg.keep ((Chg.refl [] _).alloc _ |>.trans cb) rRd Vn)|(have rRb:=cb.keep (Xd rR rfl) Vn)|(have rRb:=cb.keep (Xd rRd rfl) Vn)))
   |(go_at_call 183;refine (rall_any _ _ _ _ ?_).mono ?_;(first |exact o0|exact Nat.lt_of_lt_of_le o0.lt (Chg.size Tb)|exact Nat.lt_of_lt_of_le o0.lt (Chg.size (Chg.putRow Tb (w.heap.size+2) 0 _ (.inl (Vm rfl)))));rintro e w' ⟨A2,n2,rfl,hs2,hA2,cd⟩;(first |(have Td:Chg [w.heap.size+2] w8 _:=Chg.trans ((Chg.refl [w.heap.size+2] w8).drew) (Chg.mono cd (fun _ h=>absurd h Vn)))|(have Td:Chg [w.heap.size+2] w8 _:=Chg.trans (Chg.alloc ((Chg.refl [w.heap.size+2] w8).drew) _) (Chg.mono cd (fun _ h=>absurd h Vn)))|(have Td:Chg [w.heap.size+2] w8 _:=Chg.trans (Chg.putRow ((Chg.refl [w.heap.size+2] w8).drew) (w.heap.size+2) 0 _ (.inl (Vm rfl))) (Chg.mono cd (fun _ h=>absurd h Vn)))|(have Td:Chg [w.heap.size+2] w8 _:=Chg.trans (Chg.putRow (Chg.alloc ((Chg.refl [w.heap.size+2] w8).drew) _) (w.heap.size+2) 0 _ (.inl (Vm rfl))) (Chg.mono cd (fun _ h=>absurd h Vn)))|(have Td:Chg [w.heap.size+2] w8 _:=Chg.trans (Chg.alloc (Chg.putRow ((Chg.refl [w.heap.size+2] w8).drew) (w.heap.size+2) 0 _ (.inl (Vm rfl))) _) (Chg.mono cd (fun _ h=>absurd h Vn)))|(have Td:Chg [w.heap.size+2] w8 _:=Chg.trans Tb (Chg.mono cd (fun _ h=>absurd h Vn)))|(have Td:Chg [w.heap.size+2] w8 _:=Chg.trans (Chg.alloc Tb _) (Chg.mono cd (fun _ h=>absurd h Vn)))|(have Td:Chg [w.heap.size+2] w8 _:=Chg.trans (Chg.putRow Tb (w.heap.size+2) 0 _ (.inl (Vm rfl))) (Chg.mono cd (fun _ h=>absurd h Vn)))|(have Td:Chg [w.heap.size+2] w8 _:=Chg.trans (Chg.putRow (Chg.alloc Tb _) (w.heap.size+2) 0 _ (.inl (Vm rfl))) (Chg.mono cd (fun _ h=>absurd h Vn)))|(have Td:Chg [w.heap.size+2] w8 _:=Chg.trans (Chg.alloc (Chg.putRow Tb (w.heap.size+2) 0 _ (.inl (Vm rfl))) _) (Chg.mono cd (fun _ h=>absurd h Vn))));(first |(have rRd:=cd.keep rR Vn)|(have rRd:=cd.keep rRb Vn)|(have rRd:=Chg.keep ((Chg.refl [] _).alloc _ |>.trans cd) rR Vn)|(have rRd:=Chg.keep ((Chg.refl [] _).alloc _ |>.trans cd) rRb Vn)|(have rRd:=cd.keep (Xd rR rfl) Vn)|(have rRd:=cd.keep (Xd rRb rfl) Vn));(first |(have hA3:∀a,A2=some a→w8.heap.size≤a.block:=fun a ha=>Nat.le_trans (Chg.size Tb) (hA2 a ha))|(have hA3:∀a,A2=some a→w8.heap.size≤a.block:=fun a ha=>Nat.le_trans (Chg.size (Chg.putRow Tb (w.heap.size+2) 0 _ (.inl (Vm rfl)))) (hA2 a ha))|(have hA3:∀a,A2=some a→w8.heap.size≤a.block:=fun a ha=>hA2 a ha)|(have hA3:∀a,A2=some a→w8.heap.size≤a.block:=(by intro a ha;have:=hA2 a ha;simp at this;omega)))))
 all_goals
  go_wp2_with fail
  refine bodyPost_ret (Xx (by rfl) _ _ (w.heap.size+2) (Qdm x 5 c o) (0,0) (by rfl) (by first |(simp [rRd];done)|(simp [rRb];done)) _ _ (by rfl) (by rfl)) (by rfl) ?_
  exact Tz75
theorem rask_zero (x:En) (c:Int) (m:Ms) (w:World) (o00:Old w 0) (hn:¬(JR x c m=false∨x.bu≠0∨x.he=false)):Calls Tryz.prog 114 #[.agg (ec x),.int .i64 c,.agg (msc m)] w (En3r w (askE x c m)):=by
 have ga:JR x c m=true:=by
  cases h:JR x c m
  ·exact absurd (.inl h) hn
  ·rfl
 have hb:x.bu=0:=Decidable.byContradiction fun h=>hn (.inr (.inl h))
 have hh:x.he=true:=by
  cases h:x.he
  ·exact absurd (.inr (.inr h)) hn
  ·rfl
 have g:=ga
 unfold JR at g
 rw [Bool.and_eq_true,Bool.and_eq_true,Bool.and_eq_true] at g
 obtain ⟨⟨⟨g1,g2⟩,g3⟩,g4⟩:=g
 rw [show askE x c m=(XX x c m,0) from by simp [askE,ga,hb,hh]]
 have hk:m.kd=1∨m.kd=2∨m.kd=3∨m.kd=4∨m.kd=5:=by simp [Yc] at g4;omega
 rcases hk with hk|hk|hk|hk|hk
 ·rw [show XX x c m=Qal x c m by simp [XX,hk]]
  by_cases h1:x.ow≠ -1∧x.ow≠c
  ·rcases Qgt g1 with h|⟨h,_⟩
   ·exact absurd h h1.1
   ·exact rask_S1 x c m w o00 g1 g2 g3 g4 hb hh h h1.2 hk
  ·by_cases h2:x.sh=0#8
   ·exact rask_S2 x c m w o00 g1 g2 g3 g4 hb hh h1 h2 hk
   ·exact rask_S3 x c m w o00 g1 g2 g3 g4 hb hh h1 h2 hk
 ·rw [show XX x c m=Qb6 x c m by simp [XX,hk]]
  by_cases h1:((bitM x.ow|||x.sh)&&& ~~~(bitM c))=0#8
  ·exact rask_M1 x c m w o00 g1 g2 g3 g4 hb hh h1 hk
  ·exact rask_M2 x c m w o00 g1 g2 g3 g4 hb hh h1 hk
 ·rw [show XX x c m=putE x c m by simp [XX,hk]]
  by_cases h1:x.ow=c
  ·cases h2:m.di
   ·exact rask_P2 x c m w o00 g1 g2 g3 g4 hb hh h1 h2 hk
   ·exact rask_P1 x c m w o00 g1 g2 g3 g4 hb hh h1 h2 hk
  ·exact rask_P3 x c m w o00 g1 g2 g3 g4 hb hh h1 hk
 ·rw [show XX x c m=Qdb x c m by simp [XX,hk]]
  exact rask_C x c m w o00 g1 g2 g3 g4 hb hh hk
 ·rw [show XX x c m=wipeE x c m by simp [XX,hk]]
  exact rask_W x c m w o00 g1 g2 g3 g4 hb hh hk
theorem rask_okay (x:En) (c:Int) (m:Ms) (w:World) (o00:Old w 0) (hz:(askE x c m).2=0):Calls Tryz.prog 114 #[.agg (ec x),.int .i64 c,.agg (msc m)] w (En3r w (askE x c m)):=by
 refine rask_zero x c m w o00 fun h=>?_
 unfold askE at hz
 rcases h with h|h|h
 ·rw [h] at hz;simp at hz
 ·cases ha:JR x c m
  ·rw [ha] at hz;simp at hz
  ·rw [ha,if_pos rfl,if_pos h] at hz;simp at hz
 ·cases ha:JR x c m
  ·rw [ha] at hz;simp at hz
  ·rw [ha,if_pos rfl] at hz
   by_cases hb:x.bu≠0
   ·rw [if_pos hb] at hz;simp at hz
   ·rw [if_neg hb,if_pos h] at hz;simp at hz
end
end Go.Proofs.YtadeoflkppiflaaGreatDoor
