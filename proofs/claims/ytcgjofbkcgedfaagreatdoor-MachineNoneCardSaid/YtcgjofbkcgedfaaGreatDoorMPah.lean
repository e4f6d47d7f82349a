/- Texts of the walk, one behind the other: Dird Dire Dirf Mfa Mfb. No condition. -/
import Derived.Test.YtcgjofbkcgedfaaGreatDoorMPaa
import Derived.Test.YtcgjofbkcgedfaaGreatDoorMPac
import Derived.Test.YtcgjofbkcgedfaaGreatDoorMPae
import Derived.Test.YtcgjofbkcgedfaaGreatDoorMPag
import Derived.BigQuiet
import Derived.Deep.Cut
import Derived.Deep.CutBlock
import Derived.Deep.CutRange
import Derived.Deep.DeepCutAuto
import Derived.Deep.QuietTactic
import Derived.Deep.RegionHeld3
import Derived.Deep.RegionWith
namespace Go.Proofs.YtcgjofbkcgedfaaGreatDoor
open Go.RowKit
set_option linter.unusedVariables false
set_option maxHeartbeats 1000000
set_option maxRecDepth 100000
attribute [local simp ↓] Qk Qh heap_alloc Ql heap_setCell Qc
attribute [local go_sem ↓] Qa0 Qa1 Qaz Qay Qa3 Qa2 Qax Qa6
attribute [local go_sem] Jb Qaw Ja XN XR Zh Jo X5 Qa9 Z1 Zp Zo Zm Zr Zq Zl Ze Zd ZC ZB Jk X1
attribute [local simp] Zh ZB Zp Zo Zm Zr Zq Zl Ze Zd ZC
attribute [local go_sem ↓] Jn X0 Jm XZ X9
attribute [local go_sem] Ji Jh X4 Jj QR QT Yp
attribute [local simp] X9 QR QT QD Z1
section
attribute [local go_sem ↓] Qv QF Qy QO Zi QE Qs Zg Q6 ZK Zt Qk Qh heap_alloc Ql heap_setCell Qc Xm Xl Xr Xq
attribute [local go_sem] Qb Qa Qd Qi Qe Qg Qf Qt Zk Zf ZH QB Qw QN QL QM Q5 ZI QK QA Qr QD QW QJ Qq QC Qp Qj Qo Qn Qm Zv lit8 QH ZJ Zy Zz
attribute [local simp] Qb Qa Qd Qi Qe Qg Qf Qt Qr Qj Qo Qn Qm QH
theorem dgetS_any (x:En) (c:Int) (m:Ms) (w:World) (h0:Old w 0):Calls Tryz.prog 212 #[.agg (ec x),.int .i64 c,.agg (msc m)] w (EnSds w (Qer x c m)):=by
 by_cases h:x.ow≠ -1∧x.ow≠c
 ·have e1:Qer x c m=JR x c m (bitM x.ow) 13:=by unfold Qer;rw [if_pos h]
  rw [e1]
  have t0:(x.ow !=-1)=true:=by simpa using h.1
  have t1:(x.ow !=c)=true:=by simpa using h.2
  clear e1 h
  go_enter Tryz.func212,Tryz.ntmps212
  try dsimp only [List.append]
  go_wp2_with fail
  refine Qam (w:=w) (b1:=w.heap.size) (x1:=.cells (ec (x)) 120 (0,0)) (b2:=w.heap.size+1) (x2:=.cells (msc m) 196 (0,0)) (b3:=w.heap.size+2) (x3:=.cells (ec (enZ)) 120 (0,0)) Cz1 (by simp [*]) (by simp [*]) (by simp [*]) fun w1 C1 rE rM rR=>?_
  have oE:=old rE
  have oM:=old rM
  have oR:=old rR
  have o0:=h0.chg C1
  go_region_held3 (fun w'=>w'.heap[w.heap.size]? =some (.cells (ec (x)) 120 (0,0))∧w'.heap[w.heap.size+1]? =some (.cells (msc m) 196 (0,0))) (first |exact ⟨rE,rM⟩|exact ⟨c2.keep rE (by simp),c2.keep rM (by simp)⟩|exact ⟨c2.keep (by simp [*]) (by simp),c2.keep (by simp [*]) (by simp)⟩|simp [*])
   (first
    |(go_at_call 180;refine (Yv _ _).mono ?_;rintro e w' ⟨rfl,rfl⟩)
    |(go_at_call 241;refine (Qfl _ _ _ _ _ _ ?_).mono ?_;exact Cz7;rintro e w' ⟨A2,n2,rfl,hs2,hA2,c2⟩;(have hA3:∀a,A2=some a→w1.heap.size≤a.block:=(by simpa using hA2));(first |(have rR2:=c2.keep rR (by simp))|(have rR2:=c2.keep (x:=.cells (ec (x)) 120 (0,0)) (k:=w.heap.size+2) (by simp [rR]) (by simp)))))
  all_goals
   go_wp2_with fail
   refine bodyPost_ret (v:=.tuple #[.agg (ec ((JR x c m (bitM x.ow) 13).1)),.slice A2 (JR x c m (bitM x.ow) 13).2.length n2]) ?_ (by rfl) ?_
   ·exact Xy (by rfl) _ _ (w.heap.size+2) _ (0,0) (by rfl) Cz8 _ (by rfl)
   refine ⟨A2,n2,rfl,?_,fun a ha=>Nat.le_trans C1.size (hA3 a ha),by (repeat' (first |exact Chg.refl _ _|assumption|exact Chg.refl [] _|refine Chg.drew ?_|refine Chg.drewN ?_ _|refine Chg.alloc ?_ _|refine Chg.putRow ?_ _ _ _ (.inr Cz4)|refine Chg.setCell ?_ _ _ _ (.inr Cz4)|refine Chg.trans ?_ c2))⟩
   first
    |exact hs2
    |exact hs2.chg ((Chg.refl [w.heap.size+2] _).putRow _ _ _ (.inl (by simp))) Cz5
    |exact hs2.chg c3 (by simp)
    |exact (hs2.chg c3 (by simp)).chg ((Chg.refl [w.heap.size+2] _).putRow _ _ _ (.inl (by simp))) Cz5
 ·have h2:(x.ow !=-1)=false∨((x.ow !=-1)=true∧(x.ow !=c)=false):=by
   by_cases a:x.ow= -1
   ·exact .inl (by simp [a])
   ·have b:x.ow=c:=Decidable.byContradiction fun b=>h ⟨a,b⟩
    exact .inr ⟨by simpa using a,by simp [b]⟩
  by_cases hs:x.sh=0#8
  ·have e1:Qer x c m=JB x c 9 m.li:=by unfold Qer;rw [if_neg h,if_pos hs]
   rw [e1]
   have t3:(x.sh==0#8)=true:=by simpa using hs
   clear e1 h hs
   rcases h2 with t0|⟨t0,t1⟩
   all_goals
    go_enter Tryz.func212,Tryz.ntmps212
    try dsimp only [List.append]
    go_wp2_with fail
    refine ZV (w:=w) (b1:=w.heap.size) (x1:=.cells (ec (x)) 120 (0,0)) (b2:=w.heap.size+1) (x2:=.cells (msc m) 196 (0,0)) (b3:=w.heap.size+2) (x3:=.cells (ec (enZ)) 120 (0,0)) Cz1 (by simp [*]) (by simp [*]) (by simp [*]) fun w1 C1 rE rM rR=>?_
    have oE:=old rE
    have oM:=old rM
    have oR:=old rR
    have o0:=h0.chg C1
    refine (Qgi x c 9 m.li _ o0).mono ?_
    rintro e w2 ⟨A2,n2,rfl,hs2,hA3,c2⟩
    have rR2:=c2.keep rR (by simp)
    have oR2:=old rR2
    go_wp2_with fail
    refine bodyPost_ret (v:=.tuple #[.agg (ec ((JB x c 9 m.li).1)),.slice A2 (JB x c 9 m.li).2.length n2]) ?_ (by rfl) ?_
    ·exact Xy (by rfl) _ _ (w.heap.size+2) _ (0,0) (by rfl) Cz8 _ (by rfl)
    refine ⟨A2,n2,rfl,?_,fun a ha=>Nat.le_trans C1.size (hA3 a ha),by (repeat' (first |exact Chg.refl _ _|assumption|exact Chg.refl [] _|refine Chg.drew ?_|refine Chg.drewN ?_ _|refine Chg.alloc ?_ _|refine Chg.putRow ?_ _ _ _ (.inr Cz4)|refine Chg.setCell ?_ _ _ _ (.inr Cz4)|refine Chg.trans ?_ c2))⟩
    exact hs2.chg ((Chg.refl [w.heap.size+2] _).putRow _ _ _ (.inl (by simp))) Cz5
  ·have e1:Qer x c m=Jd x c m.li:=by unfold Qer;rw [if_neg h,if_neg hs]
   rw [e1]
   have t3:(x.sh==0#8)=false:=by simpa using hs
   clear e1 h hs
   rcases h2 with t0|⟨t0,t1⟩
   all_goals
    go_enter Tryz.func212,Tryz.ntmps212
    try dsimp only [List.append]
    go_wp2_with fail
    refine ZV (w:=w) (b1:=w.heap.size) (x1:=.cells (ec (x)) 120 (0,0)) (b2:=w.heap.size+1) (x2:=.cells (msc m) 196 (0,0)) (b3:=w.heap.size+2) (x3:=.cells (ec (enZ)) 120 (0,0)) Cz1 (by simp [*]) (by simp [*]) (by simp [*]) fun w1 C1 rE rM rR=>?_
    have oE:=old rE
    have oM:=old rM
    have oR:=old rR
    have o0:=h0.chg C1
    refine (Qii x c m.li _ o0).mono ?_
    rintro e w2 ⟨A2,n2,rfl,hs2,hA3,c2⟩
    have rR2:=c2.keep rR (by simp)
    have oR2:=old rR2
    go_wp2_with fail
    refine bodyPost_ret (v:=.tuple #[.agg (ec ((Jd x c m.li).1)),.slice A2 (Jd x c m.li).2.length n2]) ?_ (by rfl) ?_
    ·exact Xy (by rfl) _ _ (w.heap.size+2) _ (0,0) (by rfl) Cz8 _ (by rfl)
    refine ⟨A2,n2,rfl,?_,fun a ha=>Nat.le_trans C1.size (hA3 a ha),by (repeat' (first |exact Chg.refl _ _|assumption|exact Chg.refl [] _|refine Chg.drew ?_|refine Chg.drewN ?_ _|refine Chg.alloc ?_ _|refine Chg.putRow ?_ _ _ _ (.inr Cz4)|refine Chg.setCell ?_ _ _ _ (.inr Cz4)|refine Chg.trans ?_ c2))⟩
    exact hs2.chg ((Chg.refl [w.heap.size+2] _).putRow _ _ _ (.inl (by simp))) Cz5
theorem dclean_any (x:En) (c:Int) (m:Ms) (w:World) (h0:Old w 0):Calls Tryz.prog 215 #[.agg (ec x),.int .i64 c,.agg (msc m)] w (EnSds w (cleanE x c m)):=by
 rw [show cleanE x c m=JR x c m (bitM x.ow) 13 from rfl]
 go_enter Tryz.func215,Tryz.ntmps215
 try dsimp only [List.append]
 go_wp2_with fail
 refine Qam (w:=w) (b1:=w.heap.size) (x1:=.cells (ec (x)) 120 (0,0)) (b2:=w.heap.size+1) (x2:=.cells (msc m) 196 (0,0)) (b3:=w.heap.size+2) (x3:=.cells (ec (enZ)) 120 (0,0)) Cz1 (by simp [*]) (by simp [*]) (by simp [*]) fun w1 C1 rE rM rR=>?_
 have oE:=old rE
 have oM:=old rM
 have oR:=old rR
 have o0:=h0.chg C1
 go_region_held3 (fun w'=>w'.heap[w.heap.size]? =some (.cells (ec (x)) 120 (0,0))∧w'.heap[w.heap.size+1]? =some (.cells (msc m) 196 (0,0))) (first |exact ⟨rE,rM⟩|exact ⟨c2.keep rE (by simp),c2.keep rM (by simp)⟩|exact ⟨c2.keep (by simp [*]) (by simp),c2.keep (by simp [*]) (by simp)⟩|simp [*])
  (first
   |(go_at_call 180;refine (Yv _ _).mono ?_;rintro e w' ⟨rfl,rfl⟩)
   |(go_at_call 241;refine (Qfl _ _ _ _ _ _ ?_).mono ?_;exact Cz7;rintro e w' ⟨A2,n2,rfl,hs2,hA2,c2⟩;(have hA3:∀a,A2=some a→w1.heap.size≤a.block:=(by simpa using hA2));(first |(have rR2:=c2.keep rR (by simp))|(have rR2:=c2.keep (x:=.cells (ec (x)) 120 (0,0)) (k:=w.heap.size+2) (by simp [rR]) (by simp)))))
 all_goals
  go_wp2_with fail
  refine bodyPost_ret (v:=.tuple #[.agg (ec ((JR x c m (bitM x.ow) 13).1)),.slice A2 (JR x c m (bitM x.ow) 13).2.length n2]) ?_ (by rfl) ?_
  ·exact Xy (by rfl) _ _ (w.heap.size+2) _ (0,0) (by rfl) Cz8 _ (by rfl)
  refine ⟨A2,n2,rfl,?_,fun a ha=>Nat.le_trans C1.size (hA3 a ha),by (repeat' (first |exact Chg.refl _ _|assumption|exact Chg.refl [] _|refine Chg.drew ?_|refine Chg.drewN ?_ _|refine Chg.alloc ?_ _|refine Chg.putRow ?_ _ _ _ (.inr Cz4)|refine Chg.setCell ?_ _ _ _ (.inr Cz4)|refine Chg.trans ?_ c2))⟩
  first
   |exact hs2
   |exact hs2.chg ((Chg.refl [w.heap.size+2] _).putRow _ _ _ (.inl (by simp))) Cz5
   |exact hs2.chg c3 (by simp)
   |exact (hs2.chg c3 (by simp)).chg ((Chg.refl [w.heap.size+2] _).putRow _ _ _ (.inl (by simp))) Cz5
theorem dwipe_any (x:En) (c:Int) (m:Ms) (w:World) (h0:Old w 0):Calls Tryz.prog 216 #[.agg (ec x),.int .i64 c,.agg (msc m)] w (EnSds w (wipeE x c m)):=by
 rw [show wipeE x c m=JR x c m (Y7 x) 12 from rfl]
 go_enter Tryz.func216,Tryz.ntmps216
 try dsimp only [List.append]
 go_wp2_with fail
 refine Qam (w:=w) (b1:=w.heap.size) (x1:=.cells (ec (x)) 120 (0,0)) (b2:=w.heap.size+1) (x2:=.cells (msc m) 196 (0,0)) (b3:=w.heap.size+2) (x3:=.cells (ec (enZ)) 120 (0,0)) Cz1 (by simp [*]) (by simp [*]) (by simp [*]) fun w1 C1 rE rM rR=>?_
 have oE:=old rE
 have oM:=old rM
 have oR:=old rR
 have o0:=h0.chg C1
 go_region_held3 (fun w'=>w'.heap[w.heap.size]? =some (.cells (ec (x)) 120 (0,0))∧w'.heap[w.heap.size+1]? =some (.cells (msc m) 196 (0,0))) (first |exact ⟨rE,rM⟩|exact ⟨c2.keep rE (by simp),c2.keep rM (by simp)⟩|exact ⟨c3.keep rE (by simp),c3.keep rM (by simp)⟩|exact ⟨c2.keep (by simp [*]) (by simp),c2.keep (by simp [*]) (by simp)⟩|exact ⟨c3.keep (by simp [*]) (by simp),c3.keep (by simp [*]) (by simp)⟩|simp [*])
  (first
   |(go_at_call 242;refine (Qb6 _ _).mono ?_;rintro e w' ⟨rfl,c3⟩;(have rR3:=c3.keep rR (by simp));(have o3:=Old.chg (b:=0) Cz7 c3);(have z3:=c3.size))
   |(go_at_call 241;refine (Qfl _ _ _ _ _ _ ?_).mono ?_;exact o3;rintro e w' ⟨A2,n2,rfl,hs2,hA2,c2⟩;(have hA3:∀a,A2=some a→w1.heap.size≤a.block:=(fun a ha=>Nat.le_trans z3 (hA2 a ha)));have rR2:=c2.keep rR3 (by simp)))
 all_goals
  go_wp2_with fail
  refine bodyPost_ret (v:=.tuple #[.agg (ec ((JR x c m (Y7 x) 12).1)),.slice A2 (JR x c m (Y7 x) 12).2.length n2]) ?_ (by rfl) ?_
  ·exact Xy (by rfl) _ _ (w.heap.size+2) _ (0,0) (by rfl) Cz8 _ (by rfl)
  refine ⟨A2,n2,rfl,?_,fun a ha=>Nat.le_trans C1.size (hA3 a ha),by (repeat' (first |exact Chg.refl _ _|assumption|exact Chg.refl [] _|refine Chg.drew ?_|refine Chg.drewN ?_ _|refine Chg.alloc ?_ _|refine Chg.putRow ?_ _ _ _ (.inr Cz4)|refine Chg.setCell ?_ _ _ _ (.inr Cz4)|refine Chg.trans ?_ c2|refine Chg.trans ?_ c3))⟩
  first
   |exact hs2
   |exact hs2.chg ((Chg.refl [w.heap.size+2] _).putRow _ _ _ (.inl (by simp))) Cz5
   |exact hs2.chg c3 (by simp)
   |exact (hs2.chg c3 (by simp)).chg ((Chg.refl [w.heap.size+2] _).putRow _ _ _ (.inl (by simp))) Cz5
theorem dgetM_any (x:En) (c:Int) (m:Ms) (w:World) (h0:Old w 0):Calls Tryz.prog 213 #[.agg (ec x),.int .i64 c,.agg (msc m)] w (EnSds w (Qgb x c m)):=by
 by_cases h:(Y7 x&&& ~~~(bitM c))=0#8
 ·have e1:Qgb x c m=JB x c 10 m.li:=by unfold Qgb;rw [if_pos h]
  have t1:((Y7 x&&& ~~~(bitM c))==0#8)=true:=by simpa using h
  rw [e1]
  clear e1 h
  go_enter Tryz.func213,Tryz.ntmps213
  try dsimp only [List.append]
  go_wp2_with fail
  refine ZV (w:=w) (b1:=w.heap.size) (x1:=.cells (ec (x)) 120 (0,0)) (b2:=w.heap.size+1) (x2:=.cells (msc m) 196 (0,0)) (b3:=w.heap.size+2) (x3:=.cells (ec (enZ)) 120 (0,0)) Cz1 (by simp [*]) (by simp [*]) (by simp [*]) fun w1 C1 rE rM rR=>?_
  have oE:=old rE
  have oM:=old rM
  have oR:=old rR
  have o0:=h0.chg C1
  refine (Qb6 x w1).mono ?_
  rintro e w3 ⟨rfl,c3⟩
  have rE3:=c3.keep rE (by simp)
  have rM3:=c3.keep rM (by simp)
  have rR3:=c3.keep rR (by simp)
  have C3:=C1.trans c3
  have o3:=h0.chg C3
  clear rE rM rR oE oM oR o0 C1 c3
  have oE3:=old rE3
  have oM3:=old rM3
  have oR3:=old rR3
  go_wp2_with (go_at_call 180;refine (Yv _ _).mono ?_;rintro e w' ⟨rfl,rfl⟩)
  refine (Qgi x c 10 m.li _ (by exact o3)).mono ?_
  rintro e w2 ⟨A2,n2,rfl,hs2,hA3,c2⟩
  have rR2:=c2.keep rR3 (by simp)
  have oR2:=old rR2
  go_wp2_with fail
  refine bodyPost_ret (v:=.tuple #[.agg (ec ((JB x c 10 m.li).1)),.slice A2 (JB x c 10 m.li).2.length n2]) ?_ (by rfl) ?_
  ·exact Xy (by rfl) _ _ (w.heap.size+2) _ (0,0) (by rfl) (by simp [rR2];done) _ (by rfl)
  refine ⟨A2,n2,rfl,?_,fun a ha=>Nat.le_trans C3.size (hA3 a ha),by (repeat' (first |exact Chg.refl _ _|assumption|exact Chg.refl [] _|refine Chg.drew ?_|refine Chg.drewN ?_ _|refine Chg.alloc ?_ _|refine Chg.putRow ?_ _ _ _ (.inr Cz4)|refine Chg.setCell ?_ _ _ _ (.inr Cz4)|refine Chg.trans ?_ c2))⟩
  exact hs2.chg ((Chg.refl [w.heap.size+2] _).putRow _ _ _ (.inl (by simp))) (by intro a ha;have:=hA3 a ha;have:=oR3.lt;simp;omega)
 ·have e1:Qgb x c m=JR x c m (Y7 x&&& ~~~(bitM c)) 12:=by unfold Qgb;rw [if_neg h]
  have t1:((Y7 x&&& ~~~(bitM c))==0#8)=false:=by simpa using h
  rw [e1]
  clear e1 h
  go_enter Tryz.func213,Tryz.ntmps213
  try dsimp only [List.append]
  go_wp2_with fail
  refine ZV (w:=w) (b1:=w.heap.size) (x1:=.cells (ec (x)) 120 (0,0)) (b2:=w.heap.size+1) (x2:=.cells (msc m) 196 (0,0)) (b3:=w.heap.size+2) (x3:=.cells (ec (enZ)) 120 (0,0)) Cz1 (by simp [*]) (by simp [*]) (by simp [*]) fun w1 C1 rE rM rR=>?_
  have oE:=old rE
  have oM:=old rM
  have oR:=old rR
  have o0:=h0.chg C1
  refine (Qb6 x w1).mono ?_
  rintro e w3 ⟨rfl,c3⟩
  have rE3:=c3.keep rE (by simp)
  have rM3:=c3.keep rM (by simp)
  have rR3:=c3.keep rR (by simp)
  have C3:=C1.trans c3
  have o3:=h0.chg C3
  clear rE rM rR oE oM oR o0 C1 c3
  have oE3:=old rE3
  have oM3:=old rM3
  have oR3:=old rR3
  go_wp2_with (go_at_call 180;refine (Yv _ _).mono ?_;rintro e w' ⟨rfl,rfl⟩)
  refine (Qfl x c m (Y7 x&&& ~~~(bitM c)) 12 _ (by exact o3)).mono ?_
  rintro e w2 ⟨A2,n2,rfl,hs2,hA3,c2⟩
  have rR2:=c2.keep rR3 (by simp)
  have oR2:=old rR2
  go_wp2_with fail
  refine bodyPost_ret (v:=.tuple #[.agg (ec ((JR x c m (Y7 x&&& ~~~(bitM c)) 12).1)),.slice A2 (JR x c m (Y7 x&&& ~~~(bitM c)) 12).2.length n2]) ?_ (by rfl) ?_
  ·exact Xy (by rfl) _ _ (w.heap.size+2) _ (0,0) (by rfl) (by simp [rR2];done) _ (by rfl)
  refine ⟨A2,n2,rfl,?_,fun a ha=>Nat.le_trans C3.size (hA3 a ha),by (repeat' (first |exact Chg.refl _ _|assumption|exact Chg.refl [] _|refine Chg.drew ?_|refine Chg.drewN ?_ _|refine Chg.alloc ?_ _|refine Chg.putRow ?_ _ _ _ (.inr Cz4)|refine Chg.setCell ?_ _ _ _ (.inr Cz4)|refine Chg.trans ?_ c2))⟩
  exact hs2.chg ((Chg.refl [w.heap.size+2] _).putRow _ _ _ (.inl (by simp))) (by intro a ha;have:=hA3 a ha;have:=oR3.lt;simp;omega)
theorem dput_any (x:En) (c:Int) (m:Ms) (w:World) (h0:Old w 0):Calls Tryz.prog 214 #[.agg (ec x),.int .i64 c,.agg (msc m)] w (EnSds w (putE x c m)):=by
 by_cases h:x.ow=c
 ·have e1:putE x c m=(Q9 (Zb x m) c,Xt (bitM c) (ms4 11 m.li false false)):=by unfold putE;rw [if_pos h]
  have t1:(x.ow==c)=true:=by simpa using h
  rw [e1]
  clear e1 h
  go_enter Tryz.func214,Tryz.ntmps214
  try dsimp only [List.append]
  go_wp2_with fail
  refine ZV (w:=w) (b1:=w.heap.size) (x1:=.cells (ec (x)) 120 (0,0)) (b2:=w.heap.size+1) (x2:=.cells (msc m) 196 (0,0)) (b3:=w.heap.size+2) (x3:=.cells (ec (enZ)) 120 (0,0)) Cz1 (by simp [*]) (by simp [*]) (by simp [*]) fun w1 C1 rE rM rR=>?_
  have oE:=old rE
  have oM:=old rM
  have oR:=old rR
  refine (Qdr x m w1).mono ?_
  rintro e w3 ⟨rfl,c3⟩
  have rE3:=c3.keep rE (by simp)
  have rM3:=c3.keep rM (by simp)
  have rR3:=c3.keep rR (by simp)
  have C3:=C1.trans c3
  clear rE rM rR oE oM oR C1 c3
  go_wp2_with fail
  refine Qam (w:=w) (b1:=w.heap.size) (x1:=.cells (ec (Zb x m)) 120 (0,0)) (b2:=w.heap.size+1) (x2:=.cells (msc m) 196 (0,0)) (b3:=w.heap.size+2) (x3:=.cells (ec (enZ)) 120 (0,0)) Cz1 (by simp [*]) (by simp [*]) (by simp [*]) fun w1 C1 rE rM rR=>?_
  have oE:=old rE
  have oM:=old rM
  have oR:=old rR
  have o0:=h0.chg C1
  go_region_held3 (fun w'=>w'.heap[w.heap.size]? =some (.cells (ec (Zb x m)) 120 (0,0))∧w'.heap[w.heap.size+1]? =some (.cells (msc m) 196 (0,0))) (first |exact ⟨rE,rM⟩|exact ⟨c2.keep rE (by simp),c2.keep rM (by simp)⟩|exact ⟨c3.keep rE (by simp),c3.keep rM (by simp)⟩|exact ⟨c2.keep (by simp [*]) (by simp),c2.keep (by simp [*]) (by simp)⟩|exact ⟨c3.keep (by simp [*]) (by simp),c3.keep (by simp [*]) (by simp)⟩|simp [*])
   (first
    |(go_at_call 180;refine (Yv _ _).mono ?_;rintro e w' ⟨rfl,rfl⟩)
    |(go_at_call 219;refine (Qb5 _ _ _).mono ?_;rintro e w' ⟨rfl,c3⟩;(first |(have rR3:=c3.keep rR (by simp))|(have rR3:=c3.keep rR2 (by simp))))
    |(go_at_call 179;refine (Qgh _ _ _ _ _ _ Cz15).mono ?_;rintro e w' ⟨A2,n2,rfl,hs2,hA2,c2⟩;(have hA3:∀a,A2=some a→w1.heap.size≤a.block:=Cz16);(first |(have rR2:=c2.keep rR (by simp))|(have rR2:=c2.keep rR3 (by simp))|(have rR2:=c2.keep (x:=.cells (ec (Q9 (Zb x m) c)) 120 (0,0)) (k:=w.heap.size+2) (by simp [rR3]) (by simp)))))
  all_goals
   go_wp2_with fail
   refine bodyPost_ret (v:=.tuple #[.agg (ec (Q9 (Zb x m) c)),.slice A2 (Xt (bitM c) (ms4 11 m.li false false)).length n2]) ?_ (by rfl) ?_
   ·exact Xy (by rfl) _ _ (w.heap.size+2) _ (0,0) (by rfl) (by first |exact rR2|(simp [rR2];done)|(simp [rR3];done)) _ (by rfl)
   refine ⟨A2,n2,rfl,?_,fun a ha=>Nat.le_trans C1.size (hA3 a ha),by (repeat' (first |exact Chg.refl _ _|assumption|exact Chg.refl [] _|refine Chg.drew ?_|refine Chg.drewN ?_ _|refine Chg.alloc ?_ _|refine Chg.putRow ?_ _ _ _ (.inr Cz4)|refine Chg.setCell ?_ _ _ _ (.inr Cz4)|refine Chg.trans ?_ c2|refine Chg.trans ?_ c3))⟩
   first
    |exact hs2
    |exact hs2.chg ((Chg.refl [w.heap.size+2] _).putRow _ _ _ (.inl (by simp))) Cz5
    |exact hs2.chg c3 (by simp)
    |exact (hs2.chg c3 (by simp)).chg ((Chg.refl [w.heap.size+2] _).putRow _ _ _ (.inl (by simp))) Cz5
 ·have e1:putE x c m=(Q9 x c,Xt (bitM c) (ms4 11 m.li false false)):=by unfold putE;rw [if_neg h]
  have t1:(x.ow==c)=false:=by simpa using h
  rw [e1]
  clear e1 h
  go_enter Tryz.func214,Tryz.ntmps214
  try dsimp only [List.append]
  go_wp2_with fail
  refine Qam (w:=w) (b1:=w.heap.size) (x1:=.cells (ec (x)) 120 (0,0)) (b2:=w.heap.size+1) (x2:=.cells (msc m) 196 (0,0)) (b3:=w.heap.size+2) (x3:=.cells (ec (enZ)) 120 (0,0)) Cz1 (by simp [*]) (by simp [*]) (by simp [*]) fun w1 C1 rE rM rR=>?_
  have oE:=old rE
  have oM:=old rM
  have oR:=old rR
  have o0:=h0.chg C1
  go_region_held3 (fun w'=>w'.heap[w.heap.size]? =some (.cells (ec (x)) 120 (0,0))∧w'.heap[w.heap.size+1]? =some (.cells (msc m) 196 (0,0))) (first |exact ⟨rE,rM⟩|exact ⟨c2.keep rE (by simp),c2.keep rM (by simp)⟩|exact ⟨c3.keep rE (by simp),c3.keep rM (by simp)⟩|exact ⟨c2.keep (by simp [*]) (by simp),c2.keep (by simp [*]) (by simp)⟩|exact ⟨c3.keep (by simp [*]) (by simp),c3.keep (by simp [*]) (by simp)⟩|simp [*])
   (first
    |(go_at_call 180;refine (Yv _ _).mono ?_;rintro e w' ⟨rfl,rfl⟩)
    |(go_at_call 219;refine (Qb5 _ _ _).mono ?_;rintro e w' ⟨rfl,c3⟩;(first |(have rR3:=c3.keep rR (by simp))|(have rR3:=c3.keep rR2 (by simp))))
    |(go_at_call 179;refine (Qgh _ _ _ _ _ _ Cz15).mono ?_;rintro e w' ⟨A2,n2,rfl,hs2,hA2,c2⟩;(have hA3:∀a,A2=some a→w1.heap.size≤a.block:=Cz16);(first |(have rR2:=c2.keep rR (by simp))|(have rR2:=c2.keep rR3 (by simp))|(have rR2:=c2.keep (x:=.cells (ec (Q9 (x) c)) 120 (0,0)) (k:=w.heap.size+2) (by simp [rR3]) (by simp)))))
  all_goals
   go_wp2_with fail
   refine bodyPost_ret (v:=.tuple #[.agg (ec (Q9 (x) c)),.slice A2 (Xt (bitM c) (ms4 11 m.li false false)).length n2]) ?_ (by rfl) ?_
   ·exact Xy (by rfl) _ _ (w.heap.size+2) _ (0,0) (by rfl) (by first |exact rR2|(simp [rR2];done)|(simp [rR3];done)) _ (by rfl)
   refine ⟨A2,n2,rfl,?_,fun a ha=>Nat.le_trans C1.size (hA3 a ha),by (repeat' (first |exact Chg.refl _ _|assumption|exact Chg.refl [] _|refine Chg.drew ?_|refine Chg.drewN ?_ _|refine Chg.alloc ?_ _|refine Chg.putRow ?_ _ _ _ (.inr Cz4)|refine Chg.setCell ?_ _ _ _ (.inr Cz4)|refine Chg.trans ?_ c2|refine Chg.trans ?_ c3))⟩
   first
    |exact hs2
    |exact hs2.chg ((Chg.refl [w.heap.size+2] _).putRow _ _ _ (.inl (by simp))) Cz5
    |exact hs2.chg c3 (by simp)
    |exact (hs2.chg c3 (by simp)).chg ((Chg.refl [w.heap.size+2] _).putRow _ _ _ (.inl (by simp))) Cz5
end
section
attribute [local go_sem ↓] Qv QF Qy QO Zi QE Qs Zg Q6 ZK Zt Qk Qh heap_alloc Ql heap_setCell Qc Xm Xl Xr Xq
attribute [local go_sem] Qb Qa Qd Qi Qe Qg Qf Qt Zk Zf ZH QB Qw QN QL QM Q5 ZI QK QA Qr QD QW QJ Qq QC Qp Qj Qo Qn Qm Zv lit8 QH ZJ Zy Zz
attribute [local simp] Qb Qa Qd Qi Qe Qg Qf Qt Qr Qj Qo Qn Qm QH
theorem wideDd:Wide Tryz.prog 270 6:=⟨⟨_,Tryz.underlying270,by rfl⟩,by kernel_rfl⟩
theorem loadDd (x:Value):Instr.loadAt 270 x=Qda 270 6 x:=rfl
theorem storeDd (x y:Value):Instr.storeAt 270 x y=Qag 270 6 x y:=rfl
def ddv:Array Value:=#[.nilFunc,.func (.func 212) #[] #[],.func (.func 213) #[] #[],.func (.func 214) #[] #[],.func (.func 215) #[] #[],.func (.func 216) #[] #[]]
theorem ddv_one:J6 ddv:=Qp [.nilFunc,.func (.func 212) #[] #[],.func (.func 213) #[] #[],.func (.func 214) #[] #[],.func (.func 215) #[] #[],.func (.func 216) #[] #[]] rfl
theorem ddv_lit:(#[.nilFunc,.func (.func 212) #[] #[],.func (.func 213) #[] #[],.func (.func 214) #[] #[],.func (.func 215) #[] #[],.func (.func 216) #[] #[]]:Array Value)=ddv:=rfl
attribute [local go_sem ↓] loadDd storeDd ddv_lit
attribute [local go_sem] wideDd ddv_one
theorem ddeeds_any (w:World):Calls Tryz.prog 162 #[] w fun e w'=>e=.returned (.agg ddv)∧Chg [] w w':=by
 have hz:ddv.size=6:=rfl
 go_enter Tryz.func162,Tryz.ntmps162
 try dsimp only [List.append]
 go_wp2
 refine bodyPost_ret (v:=.agg ddv) ?_ (by rfl) ?_
 ·have hb:(w.alloc (.cells ddv 270)).heap[w.heap.size]? =some (.cells ddv 270 (0,0)):=by simp
  have:=run_loadVar_row (P:=Tryz.prog) (w.alloc (.cells ddv 270)) w.heap.size 270 270 ddv (0,0) _ hb Tryz.underlying270 rfl (by kernel_rfl)
  simp [results,asAddr,this]
 exact ⟨rfl,by (repeat' (first |with_reducible exact Chg.refl _ _|with_reducible assumption|with_reducible refine Chg.drew ?_|with_reducible refine Chg.drewN ?_ _|with_reducible refine Chg.alloc ?_ _|with_reducible refine Chg.putRow ?_ _ _ _ (.inr ?_)|with_reducible refine Chg.setCell ?_ _ _ _ (.inr ?_)|(show _≤_;first |exact Nat.le_refl _|omega|(simp;done))))⟩
theorem ddv_at1 (W:World):(Instr.index 270 (.agg ddv) (.int .i64 1)).run Tryz.prog W=.ok (.func (.func 212) #[] #[]) W:=by rfl
theorem ddv_at2 (W:World):(Instr.index 270 (.agg ddv) (.int .i64 2)).run Tryz.prog W=.ok (.func (.func 213) #[] #[]) W:=by rfl
theorem ddv_at3 (W:World):(Instr.index 270 (.agg ddv) (.int .i64 3)).run Tryz.prog W=.ok (.func (.func 214) #[] #[]) W:=by rfl
theorem ddv_at4 (W:World):(Instr.index 270 (.agg ddv) (.int .i64 4)).run Tryz.prog W=.ok (.func (.func 215) #[] #[]) W:=by rfl
theorem ddv_at5 (W:World):(Instr.index 270 (.agg ddv) (.int .i64 5)).run Tryz.prog W=.ok (.func (.func 216) #[] #[]) W:=by rfl
def En3 (w:World) (r:(En×List Sd)×Int):Ending→World→Prop:=fun e w'=>∃A c,e=.returned (.tuple #[.agg (ec r.1.1),.slice A r.1.2.length c,.int .i64 r.2])∧Sl w' 13 A r.1.2.length (cat Sd.enc r.1.2)∧(∀a,A=some a→w.heap.size≤a.block)∧Chg [] w w'
theorem Qau (m:Ms) (b:Bool) (h:mg m=b) (w:World) (ht:Tab w):Calls Tryz.prog 160 #[.agg (msc m)] w fun e w'=>e=.returned (.bool b)∧Chg [] w w':=h▸Qh5 m w ht
theorem asks_at (k:Int) (b:Bool) (h:Qef k=b) (w:World):Calls Tryz.prog 161 #[.int .i64 k] w fun e w'=>e=.returned (.bool b)∧w=w':=h▸asks_any k w
theorem Qed (k:Int) (b:Bool) (h:Qbg k=b) (w:World):Calls Tryz.prog 167 #[.int .i64 k] w fun e w'=>e=.returned (.bool b)∧w=w':=h▸answers_any k w
theorem En3.err (w w':World) (n:Int) (h:Chg [] w w'):En3 w ((enZ,[]),n) (.returned (.tuple #[.agg (ec enZ),.slice none 0 0,.int .i64 n])) w':=⟨none,0,rfl,⟨rfl,.inl rfl⟩,by simp,h⟩
theorem XO {P:Program} {f:FuncId} {fn:Func} {c:Code} (hf:P.funcs[f]? =some fn) (hname:(fn.name== "runtime.NumGoroutine")=false) (hb:fn.body=some c) (args:Array Value) (w:World):
 (callFunc f args).run P w=.ok (.enter f args) w:=by
 have h1:fn.name≠ "runtime.NumGoroutine" :=by simpa using hname
 simp [callFunc,hf,h1,hb]
theorem deed_of (x:En) (c:Int) (m:Ms) (h:Qef m.kd=true):∃K:Nat,(∀W,(Instr.index 270 (.agg ddv) (.int .i64 m.kd)).run Tryz.prog W=.ok (.func (.func K) #[] #[]) W)∧
 (∀args W,(callFunc K args).run Tryz.prog W=.ok (.enter K args) W)∧∀W,Old W 0→Calls Tryz.prog K #[.agg (ec x),.int .i64 c,.agg (msc m)] W (EnSds W (Yy x c m)):=by
 have hk:m.kd=1∨m.kd=2∨m.kd=3∨m.kd=4∨m.kd=5:=by simp [Qef] at h;omega
 rcases hk with hk|hk|hk|hk|hk
 ·exact ⟨_,by rw [hk];exact ddv_at1,XO Tryz.func212 (by kernel_rfl) rfl,fun W h0=>by rw [show Yy x c m=Qer x c m by simp [Yy,hk]];exact dgetS_any x c m W h0⟩
 ·exact ⟨_,by rw [hk];exact ddv_at2,XO Tryz.func213 (by kernel_rfl) rfl,fun W h0=>by rw [show Yy x c m=Qgb x c m by simp [Yy,hk]];exact dgetM_any x c m W h0⟩
 ·exact ⟨_,by rw [hk];exact ddv_at3,XO Tryz.func214 (by kernel_rfl) rfl,fun W h0=>by rw [show Yy x c m=putE x c m by simp [Yy,hk]];exact dput_any x c m W h0⟩
 ·exact ⟨_,by rw [hk];exact ddv_at4,XO Tryz.func215 (by kernel_rfl) rfl,fun W h0=>by rw [show Yy x c m=cleanE x c m by simp [Yy,hk]];exact dclean_any x c m W h0⟩
 ·exact ⟨_,by rw [hk];exact ddv_at5,XO Tryz.func216 (by kernel_rfl) rfl,fun W h0=>by rw [show Yy x c m=wipeE x c m by simp [Yy,hk]];exact dwipe_any x c m W h0⟩
set_option maxHeartbeats 8000000 in
theorem dask_any (x:En) (c:Int) (m:Ms) (w:World) (ht:Tab w):Calls Tryz.prog 122 #[.agg (ec x),.int .i64 c,.agg (msc m)] w (En3 w (askE x c m)):=by
 cases g1:JG x
 ·skip
  rw [show askE x c m=((enZ,[]),1) from by simp [askE,Qdt,g1]]
  go_enter Tryz.func122,Tryz.ntmps122
  try dsimp only [List.append]
  go_wp2_with fail
  refine ZV (w:=w) (b1:=w.heap.size) (x1:=.cells (ec (x)) 120 (0,0)) (b2:=w.heap.size+1) (x2:=.cells (msc m) 196 (0,0)) (b3:=w.heap.size+2) (x3:=.cells (ec (enZ)) 120 (0,0)) Cz0 (by simp [*]) (by simp [*]) (by simp [*]) fun w1 C1 rE rM rR=>?_
  have oE:=old rE
  have oM:=old rM
  have oR:=old rR
  refine (Y3 x _ g1 w1).mono ?_
  rintro e w3 ⟨rfl,c3⟩
  have rE3:=c3.keep rE (by simp)
  have rM3:=c3.keep rM (by simp)
  have rR3:=c3.keep rR (by simp)
  have C3:=C1.trans c3
  have o3:=ht.keep C3 (by simp)
  clear rE rM rR oE oM oR C1 c3
  have oE3:=old rE3
  have oM3:=old rM3
  have oR3:=old rR3
  go_wp2_with fail
  refine bodyPost_ret (v:=.tuple #[.agg (ec enZ),.slice none 0 0,.int .i64 1]) ?_ (by rfl) ?_
  ·exact Xo (by rfl) _ _ (w.heap.size+2) enZ (0,0) (by rfl) (by simp [rR3];try rfl) _ _ (by rfl) (by rfl)
  exact En3.err _ _ _ Cz0
 cases g2:isC c
 ·skip
  rw [show askE x c m=((enZ,[]),1) from by simp [askE,Qdt,g2]]
  go_enter Tryz.func122,Tryz.ntmps122
  try dsimp only [List.append]
  go_wp2_with fail
  refine ZV (w:=w) (b1:=w.heap.size) (x1:=.cells (ec (x)) 120 (0,0)) (b2:=w.heap.size+1) (x2:=.cells (msc m) 196 (0,0)) (b3:=w.heap.size+2) (x3:=.cells (ec (enZ)) 120 (0,0)) Cz0 (by simp [*]) (by simp [*]) (by simp [*]) fun w1 C1 rE rM rR=>?_
  have oE:=old rE
  have oM:=old rM
  have oR:=old rR
  refine (Y3 x _ g1 w1).mono ?_
  rintro e w3 ⟨rfl,c3⟩
  have rE3:=c3.keep rE (by simp)
  have rM3:=c3.keep rM (by simp)
  have rR3:=c3.keep rR (by simp)
  have C3:=C1.trans c3
  have o3:=ht.keep C3 (by simp)
  clear rE rM rR oE oM oR C1 c3
  have oE3:=old rE3
  have oM3:=old rM3
  have oR3:=old rR3
  go_wp2_with (go_at_call 159;refine (Jt _ _ g2 _).mono ?_;rintro e w' ⟨rfl,rfl⟩)
  refine bodyPost_ret (v:=.tuple #[.agg (ec enZ),.slice none 0 0,.int .i64 1]) ?_ (by rfl) ?_
  ·exact Xo (by rfl) _ _ (w.heap.size+2) enZ (0,0) (by rfl) (by simp [rR3];try rfl) _ _ (by rfl) (by rfl)
  exact En3.err _ _ _ Cz0
 cases g3:mg m
 ·skip
  rw [show askE x c m=((enZ,[]),1) from by simp [askE,Qdt,g3]]
  go_enter Tryz.func122,Tryz.ntmps122
  try dsimp only [List.append]
  go_wp2_with fail
  refine ZV (w:=w) (b1:=w.heap.size) (x1:=.cells (ec (x)) 120 (0,0)) (b2:=w.heap.size+1) (x2:=.cells (msc m) 196 (0,0)) (b3:=w.heap.size+2) (x3:=.cells (ec (enZ)) 120 (0,0)) Cz0 (by simp [*]) (by simp [*]) (by simp [*]) fun w1 C1 rE rM rR=>?_
  have oE:=old rE
  have oM:=old rM
  have oR:=old rR
  refine (Y3 x _ g1 w1).mono ?_
  rintro e w3 ⟨rfl,c3⟩
  have rE3:=c3.keep rE (by simp)
  have rM3:=c3.keep rM (by simp)
  have rR3:=c3.keep rR (by simp)
  have C3:=C1.trans c3
  have o3:=ht.keep C3 (by simp)
  clear rE rM rR oE oM oR C1 c3
  have oE3:=old rE3
  have oM3:=old rM3
  have oR3:=old rR3
  go_wp2_with ((go_at_call 159;refine (Jt _ _ g2 _).mono ?_;rintro e w' ⟨rfl,rfl⟩))
  refine (Qau m _ g3 w3 o3).mono ?_
  rintro e w4 ⟨rfl,c4⟩
  have rE4:=c4.keep rE3 (by simp)
  have rM4:=c4.keep rM3 (by simp)
  have rR4:=c4.keep rR3 (by simp)
  have C4:=C3.trans c4
  have o4:=ht.old0.chg C4
  clear rE3 rM3 rR3 oE3 oM3 oR3 C3 c4 o3
  have oE4:=old rE4
  have oM4:=old rM4
  have oR4:=old rR4
  go_wp2_with fail
  refine bodyPost_ret (v:=.tuple #[.agg (ec enZ),.slice none 0 0,.int .i64 1]) ?_ (by rfl) ?_
  ·exact Xo (by rfl) _ _ (w.heap.size+2) enZ (0,0) (by rfl) (by simp [rR4];try rfl) _ _ (by rfl) (by rfl)
  exact En3.err _ _ _ Cz0
 cases g4:Qef m.kd
 ·skip
  rw [show askE x c m=((enZ,[]),1) from by simp [askE,Qdt,g4]]
  go_enter Tryz.func122,Tryz.ntmps122
  try dsimp only [List.append]
  go_wp2_with fail
  refine ZV (w:=w) (b1:=w.heap.size) (x1:=.cells (ec (x)) 120 (0,0)) (b2:=w.heap.size+1) (x2:=.cells (msc m) 196 (0,0)) (b3:=w.heap.size+2) (x3:=.cells (ec (enZ)) 120 (0,0)) Cz0 (by simp [*]) (by simp [*]) (by simp [*]) fun w1 C1 rE rM rR=>?_
  have oE:=old rE
  have oM:=old rM
  have oR:=old rR
  refine (Y3 x _ g1 w1).mono ?_
  rintro e w3 ⟨rfl,c3⟩
  have rE3:=c3.keep rE (by simp)
  have rM3:=c3.keep rM (by simp)
  have rR3:=c3.keep rR (by simp)
  have C3:=C1.trans c3
  have o3:=ht.keep C3 (by simp)
  clear rE rM rR oE oM oR C1 c3
  have oE3:=old rE3
  have oM3:=old rM3
  have oR3:=old rR3
  go_wp2_with ((go_at_call 159;refine (Jt _ _ g2 _).mono ?_;rintro e w' ⟨rfl,rfl⟩))
  refine (Qau m _ g3 w3 o3).mono ?_
  rintro e w4 ⟨rfl,c4⟩
  have rE4:=c4.keep rE3 (by simp)
  have rM4:=c4.keep rM3 (by simp)
  have rR4:=c4.keep rR3 (by simp)
  have C4:=C3.trans c4
  have o4:=ht.old0.chg C4
  clear rE3 rM3 rR3 oE3 oM3 oR3 C3 c4 o3
  have oE4:=old rE4
  have oM4:=old rM4
  have oR4:=old rR4
  go_wp2_with (go_at_call 161;refine (asks_at _ _ g4 _).mono ?_;rintro e w' ⟨rfl,rfl⟩)
  refine bodyPost_ret (v:=.tuple #[.agg (ec enZ),.slice none 0 0,.int .i64 1]) ?_ (by rfl) ?_
  ·exact Xo (by rfl) _ _ (w.heap.size+2) enZ (0,0) (by rfl) (by simp [rR4];try rfl) _ _ (by rfl) (by rfl)
  exact En3.err _ _ _ Cz0
 have ga:Qdt x c m=true:=by simp [Qdt,g1,g2,g3,g4]
 by_cases hb:x.bu=0
 ·have t1:(x.bu !=0)=false:=by simp [hb]
  cases hh:x.he
  ·skip
   rw [show askE x c m=((enZ,[]),16) from by simp [askE,ga,hb,hh]]
   clear ga
   go_enter Tryz.func122,Tryz.ntmps122
   try dsimp only [List.append]
   go_wp2_with fail
   refine ZV (w:=w) (b1:=w.heap.size) (x1:=.cells (ec (x)) 120 (0,0)) (b2:=w.heap.size+1) (x2:=.cells (msc m) 196 (0,0)) (b3:=w.heap.size+2) (x3:=.cells (ec (enZ)) 120 (0,0)) Cz0 (by simp [*]) (by simp [*]) (by simp [*]) fun w1 C1 rE rM rR=>?_
   have oE:=old rE
   have oM:=old rM
   have oR:=old rR
   refine (Y3 x _ g1 w1).mono ?_
   rintro e w3 ⟨rfl,c3⟩
   have rE3:=c3.keep rE (by simp)
   have rM3:=c3.keep rM (by simp)
   have rR3:=c3.keep rR (by simp)
   have C3:=C1.trans c3
   have o3:=ht.keep C3 (by simp)
   clear rE rM rR oE oM oR C1 c3
   have oE3:=old rE3
   have oM3:=old rM3
   have oR3:=old rR3
   go_wp2_with ((go_at_call 159;refine (Jt _ _ g2 _).mono ?_;rintro e w' ⟨rfl,rfl⟩))
   refine (Qau m _ g3 w3 o3).mono ?_
   rintro e w4 ⟨rfl,c4⟩
   have rE4:=c4.keep rE3 (by simp)
   have rM4:=c4.keep rM3 (by simp)
   have rR4:=c4.keep rR3 (by simp)
   have C4:=C3.trans c4
   have o4:=ht.old0.chg C4
   clear rE3 rM3 rR3 oE3 oM3 oR3 C3 c4 o3
   have oE4:=old rE4
   have oM4:=old rM4
   have oR4:=old rR4
   go_wp2_with (go_at_call 161;refine (asks_at _ _ g4 _).mono ?_;rintro e w' ⟨rfl,rfl⟩)
   refine bodyPost_ret (v:=.tuple #[.agg (ec enZ),.slice none 0 0,.int .i64 16]) ?_ (by rfl) ?_
   ·exact Xo (by rfl) _ _ (w.heap.size+2) enZ (0,0) (by rfl) (by simp [rR4];try rfl) _ _ (by rfl) (by rfl)
   exact En3.err _ _ _ Cz0
  ·rw [show askE x c m=(Yy x c m,0) from by simp [askE,ga,hb,hh]]
   clear ga hb
   obtain ⟨K,hix,hen,hd⟩:=deed_of x c m g4
   go_enter Tryz.func122,Tryz.ntmps122
   try dsimp only [List.append]
   go_wp2_with fail
   refine ZV (w:=w) (b1:=w.heap.size) (x1:=.cells (ec (x)) 120 (0,0)) (b2:=w.heap.size+1) (x2:=.cells (msc m) 196 (0,0)) (b3:=w.heap.size+2) (x3:=.cells (ec (enZ)) 120 (0,0)) Cz0 (by simp [*]) (by simp [*]) (by simp [*]) fun w1 C1 rE rM rR=>?_
   have oE:=old rE
   have oM:=old rM
   have oR:=old rR
   refine (Y3 x _ g1 w1).mono ?_
   rintro e w3 ⟨rfl,c3⟩
   have rE3:=c3.keep rE (by simp)
   have rM3:=c3.keep rM (by simp)
   have rR3:=c3.keep rR (by simp)
   have C3:=C1.trans c3
   have o3:=ht.keep C3 (by simp)
   clear rE rM rR oE oM oR C1 c3
   have oE3:=old rE3
   have oM3:=old rM3
   have oR3:=old rR3
   go_wp2_with ((go_at_call 159;refine (Jt _ _ g2 _).mono ?_;rintro e w' ⟨rfl,rfl⟩))
   refine (Qau m _ g3 w3 o3).mono ?_
   rintro e w4 ⟨rfl,c4⟩
   have rE4:=c4.keep rE3 (by simp)
   have rM4:=c4.keep rM3 (by simp)
   have rR4:=c4.keep rR3 (by simp)
   have C4:=C3.trans c4
   have o4:=ht.old0.chg C4
   clear rE3 rM3 rR3 oE3 oM3 oR3 C3 c4 o3
   have oE4:=old rE4
   have oM4:=old rM4
   have oR4:=old rR4
   go_wp2_with (go_at_call 161;refine (asks_at _ _ g4 _).mono ?_;rintro e w' ⟨rfl,rfl⟩)
   have HT:=Vh ht
   have HC4:=Vh C4
   have O4:=Vh (ht.old0.chg C4)
   clear C4 o4 ht g1 g2 g3 g4 t1 hh
   go_region_with (first
    |(go_at_call 162;refine (ddeeds_any _).mono ?_;rintro e w' ⟨rfl,c5⟩;(have rE5:=c5.keep rE4 (by simp));(have rR5:=c5.keep rR4 (by simp));(have rM5:=c5.keep rM4 (by simp));(have o5:Old _ 0:=Old.chg (b:=0) (by first |exact O4.out|(show (0:Nat)<_;exact O4.out.lt)) c5);(have z5:=c5.size))
    |(refine Calls.mono (hd _ ?_) ?_;exact o5;rintro e w' ⟨A2,n2,rfl,hs2,hA2,c2⟩;(have hA3:∀a,A2=some a→w4.heap.size≤a.block:=(fun a ha=>Nat.le_trans z5 (hA2 a ha)));(have rR2:=c2.keep rR5 (by simp));(have rE2:=c2.keep rE5 (by simp))))
   all_goals
    have C4:=HC4.out
    go_wp2_with fail
    refine bodyPost_ret (v:=.tuple #[.agg (ec (Yy x c m).1),.slice A2 (Yy x c m).2.length n2,.int .i64 0]) ?_ (by rfl) ?_
    ·exact Xo (by rfl) _ _ (w.heap.size+2) (Yy x c m).1 (0,0) (by rfl) (by simp [rR2,rE2];done) _ _ (by rfl) (by rfl)
    refine ⟨A2,n2,rfl,?_,fun a ha=>Nat.le_trans C4.size (hA3 a ha),by (repeat' (first |with_reducible exact Chg.refl _ _|with_reducible assumption|with_reducible refine Chg.drew ?_|with_reducible refine Chg.drewN ?_ _|with_reducible refine Chg.alloc ?_ _|with_reducible refine Chg.putRow ?_ _ _ _ (.inr ?_)|with_reducible refine Chg.setCell ?_ _ _ _ (.inr ?_)|with_reducible refine Chg.trans ?_ c2|with_reducible refine Chg.trans (b:=World.drew _) ?_ c2|with_reducible refine Chg.trans ?_ c5|with_reducible refine Chg.trans (b:=World.drew _) ?_ c5|(show _≤_;first |exact Nat.le_refl _|omega|(simp;done))))⟩
    exact hs2.chg (((Chg.refl [w.heap.size,w.heap.size+2] _).putRow _ _ _ (.inl (by simp))).putRow _ _ _ (.inl (by simp))) (by intro a ha;have:=hA3 a ha;have:=oR4.lt;have:=oE4.lt;simp;omega)
 ·have t1:(x.bu !=0)=true:=by simpa using hb
  rw [show askE x c m=((enZ,[]),15) from by simp [askE,ga,hb]]
  clear ga hb
  go_enter Tryz.func122,Tryz.ntmps122
  try dsimp only [List.append]
  go_wp2_with fail
  refine ZV (w:=w) (b1:=w.heap.size) (x1:=.cells (ec (x)) 120 (0,0)) (b2:=w.heap.size+1) (x2:=.cells (msc m) 196 (0,0)) (b3:=w.heap.size+2) (x3:=.cells (ec (enZ)) 120 (0,0)) Cz0 (by simp [*]) (by simp [*]) (by simp [*]) fun w1 C1 rE rM rR=>?_
  have oE:=old rE
  have oM:=old rM
  have oR:=old rR
  refine (Y3 x _ g1 w1).mono ?_
  rintro e w3 ⟨rfl,c3⟩
  have rE3:=c3.keep rE (by simp)
  have rM3:=c3.keep rM (by simp)
  have rR3:=c3.keep rR (by simp)
  have C3:=C1.trans c3
  have o3:=ht.keep C3 (by simp)
  clear rE rM rR oE oM oR C1 c3
  have oE3:=old rE3
  have oM3:=old rM3
  have oR3:=old rR3
  go_wp2_with ((go_at_call 159;refine (Jt _ _ g2 _).mono ?_;rintro e w' ⟨rfl,rfl⟩))
  refine (Qau m _ g3 w3 o3).mono ?_
  rintro e w4 ⟨rfl,c4⟩
  have rE4:=c4.keep rE3 (by simp)
  have rM4:=c4.keep rM3 (by simp)
  have rR4:=c4.keep rR3 (by simp)
  have C4:=C3.trans c4
  have o4:=ht.old0.chg C4
  clear rE3 rM3 rR3 oE3 oM3 oR3 C3 c4 o3
  have oE4:=old rE4
  have oM4:=old rM4
  have oR4:=old rR4
  go_wp2_with (go_at_call 161;refine (asks_at _ _ g4 _).mono ?_;rintro e w' ⟨rfl,rfl⟩)
  refine bodyPost_ret (v:=.tuple #[.agg (ec enZ),.slice none 0 0,.int .i64 15]) ?_ (by rfl) ?_
  ·exact Xo (by rfl) _ _ (w.heap.size+2) enZ (0,0) (by rfl) (by simp [rR4];try rfl) _ _ (by rfl) (by rfl)
  exact En3.err _ _ _ Cz0
end
section
attribute [local go_sem ↓] Qv QF Qy QO Zi QE Qs Zg Q6 ZK Zt Qk Qh heap_alloc Ql heap_setCell Qc Xm Xl Xr Xq
attribute [local go_sem] Qb Qa Qd Qi Qe Qg Qf Qt Zk Zf ZH QB Qw QN QL QM Q5 ZI QK QA Qr QD QW QJ Qq QC Qp Qj Qo Qn Qm Zv lit8 QH ZJ Zy Zz
attribute [local simp] Qb Qa Qd Qi Qe Qg Qf Qt Qr Qj Qo Qn Qm QH
theorem Qfo (x:En) (c:Int) (m:Ms) (w:World):Calls Tryz.prog 169 #[.agg (ec x),.int .i64 c,.agg (msc m)] w fun e w'=>e=.returned (.agg (ec (QQ x c m)))∧Chg [] w w':=by
 cases hk:m.ke
 ·rw [show QQ x c m=((Q9 (Zb x m) c).setWa ((Q9 (Zb x m) c).wa&&& ~~~(bitM c))) from by simp [QQ,hk]]
  go_enter Tryz.func169,Tryz.ntmps169
  try dsimp only [List.append]
  go_wp2_with fail
  refine ZV (w:=w) (b1:=w.heap.size) (x1:=.cells (ec (x)) 120 (0,0)) (b2:=w.heap.size+1) (x2:=.cells (msc m) 196 (0,0)) (b3:=w.heap.size+2) (x3:=.cells (ec (enZ)) 120 (0,0)) Cz0 (by simp [*]) (by simp [*]) (by simp [*]) fun w1 C1 rE rM rR=>?_
  have oE:=old rE
  have oM:=old rM
  have oR:=old rR
  refine (Qdr x m w1).mono ?_
  rintro e w3 ⟨rfl,c3⟩
  have rE3:=c3.keep rE (by simp)
  have rM3:=c3.keep rM (by simp)
  have rR3:=c3.keep rR (by simp)
  have C3:=C1.trans c3
  clear rE rM rR oE oM oR C1 c3
  go_wp2_with fail
  refine (Qb5 _ c w3).mono ?_
  rintro e w4 ⟨rfl,c4⟩
  have rE4:=c4.keep rE3 (by simp)
  have rM4:=c4.keep rM3 (by simp)
  have rR4:=c4.keep rR3 (by simp)
  have C4:=C3.trans c4
  clear rE3 rM3 rR3 C3 c4
  have oE4:=old rE4
  have oM4:=old rM4
  have oR4:=old rR4
  go_wp2_with fail
  go_region_with ((go_at_call 180;refine (Yv _ _).mono ?_;rintro e w' ⟨rfl,rfl⟩))
  all_goals
   go_wp2_with fail
   refine bodyPost_ret (v:=.agg (ec ((Q9 (Zb x m) c).setWa ((Q9 (Zb x m) c).wa&&& ~~~(bitM c))))) ?_ (by rfl) ?_
   ·exact X2 (by rfl) _ _ (w.heap.size+2) _ (0,0) (by rfl) Cz9
   exact ⟨rfl,by (repeat' (first |with_reducible exact Chg.refl _ _|with_reducible assumption|with_reducible refine Chg.drew ?_|with_reducible refine Chg.drewN ?_ _|with_reducible refine Chg.alloc ?_ _|with_reducible refine Chg.putRow ?_ _ _ _ (.inr ?_)|with_reducible refine Chg.setCell ?_ _ _ _ (.inr ?_)|(show _≤_;first |exact Nat.le_refl _|omega|(simp;done))))⟩
 ·rw [show QQ x c m=((Q9 (Zb x m) c).setWa ((Q9 (Zb x m) c).wa&&& ~~~(bitM c))).setSh ((Q9 (Zb x m) c).sh|||bitM c) from by simp [QQ,hk];rfl]
  go_enter Tryz.func169,Tryz.ntmps169
  try dsimp only [List.append]
  go_wp2_with fail
  refine ZV (w:=w) (b1:=w.heap.size) (x1:=.cells (ec (x)) 120 (0,0)) (b2:=w.heap.size+1) (x2:=.cells (msc m) 196 (0,0)) (b3:=w.heap.size+2) (x3:=.cells (ec (enZ)) 120 (0,0)) Cz0 (by simp [*]) (by simp [*]) (by simp [*]) fun w1 C1 rE rM rR=>?_
  have oE:=old rE
  have oM:=old rM
  have oR:=old rR
  refine (Qdr x m w1).mono ?_
  rintro e w3 ⟨rfl,c3⟩
  have rE3:=c3.keep rE (by simp)
  have rM3:=c3.keep rM (by simp)
  have rR3:=c3.keep rR (by simp)
  have C3:=C1.trans c3
  clear rE rM rR oE oM oR C1 c3
  go_wp2_with fail
  refine (Qb5 _ c w3).mono ?_
  rintro e w4 ⟨rfl,c4⟩
  have rE4:=c4.keep rE3 (by simp)
  have rM4:=c4.keep rM3 (by simp)
  have rR4:=c4.keep rR3 (by simp)
  have C4:=C3.trans c4
  clear rE3 rM3 rR3 C3 c4
  have oE4:=old rE4
  have oM4:=old rM4
  have oR4:=old rR4
  go_wp2_with fail
  go_region_with ((go_at_call 180;refine (Yv _ _).mono ?_;rintro e w' ⟨rfl,rfl⟩))
  all_goals
   go_wp2_with fail
   refine Qam (w:=w) (b1:=w.heap.size) (x1:=.cells (ec (((Q9 (Zb x m) c).setWa ((Q9 (Zb x m) c).wa&&& ~~~(bitM c))))) 120 (0,0)) (b2:=w.heap.size+1) (x2:=.cells (msc m) 196 (0,0)) (b3:=w.heap.size+2) (x3:=.cells (ec (enZ)) 120 (0,0)) Cz0 Cz9 Cz9 Cz9 fun w5 C5 rE5 rM5 rR5=>?_
   have oE5:=old rE5
   have oM5:=old rM5
   have oR5:=old rR5
   go_region_with ((go_at_call 180;refine (Yv _ _).mono ?_;rintro e w' ⟨rfl,rfl⟩))
   all_goals
    go_wp2_with fail
    refine bodyPost_ret (v:=.agg (ec (((Q9 (Zb x m) c).setWa ((Q9 (Zb x m) c).wa&&& ~~~(bitM c))).setSh ((Q9 (Zb x m) c).sh|||bitM c)))) ?_ (by rfl) ?_
    ·exact X2 (by rfl) _ _ (w.heap.size+2) _ (0,0) (by rfl) Cz9
    exact ⟨rfl,by (repeat' (first |with_reducible exact Chg.refl _ _|with_reducible assumption|with_reducible refine Chg.drew ?_|with_reducible refine Chg.drewN ?_ _|with_reducible refine Chg.alloc ?_ _|with_reducible refine Chg.putRow ?_ _ _ _ (.inr ?_)|with_reducible refine Chg.setCell ?_ _ _ _ (.inr ?_)|(show _≤_;first |exact Nat.le_refl _|omega|(simp;done))))⟩
theorem dsettled_any (x:En) (li:Int) (w:World) (h0:Old w 0):Calls Tryz.prog 170 #[.agg (ec x),.int .i64 li] w (EnSds w (Yt x li)):=by
 by_cases h1:x.bu=1
 ·have t1:(x.bu==1)=true:=by simpa using h1
  rw [show Yt x li=Jd (Jf x) x.by_ li by simp [Yt,h1]]
  clear h1
  go_enter Tryz.func170,Tryz.ntmps170
  try dsimp only [List.append]
  go_wp2_with fail
  refine J3 (w:=w) (b1:=w.heap.size) (x1:=.cells (ec (x)) 120 (0,0)) (b2:=w.heap.size+1) (x2:=.cells (ec (enZ)) 120 (0,0)) Cz0 (by simp [*]) (by simp [*]) fun w1 C1 rE rR=>?_
  have oE:=old rE
  have oR:=old rR
  have o0:=h0.chg C1
  go_region_held3 (fun w'=>w'.heap[w.heap.size]? =some (.cells (ec (x)) 120 (0,0))) (first |exact rE|exact c2.keep rE (by simp)|exact c3.keep rE (by simp)|exact c2.keep (by simp [*]) (by simp)|exact c3.keep (by simp [*]) (by simp)|simp [*])
   (first
    |(go_at_call 178;refine (Qik _ _).mono ?_;rintro e w' ⟨rfl,c3⟩;(have rR3:=c3.keep rR (by simp));(have o3:=Old.chg (b:=0) Cz7 c3);(have z3:=c3.size))
    |(go_at_call 220;refine (Qii _ _ _ _ ?_).mono ?_;exact o3;rintro e w' ⟨A2,n2,rfl,hs2,hA2,c2⟩;(have hA3:∀a,A2=some a→w1.heap.size≤a.block:=(fun a ha=>Nat.le_trans z3 (hA2 a ha)));(have rR2:=c2.keep rR3 (by simp))))
  all_goals
   go_wp2_with fail
   refine bodyPost_ret (v:=.tuple #[.agg (ec ((Jd (Jf x) x.by_ li).1)),.slice A2 (Jd (Jf x) x.by_ li).2.length n2]) ?_ (by rfl) ?_
   ·exact Xy (by rfl) _ _ (w.heap.size+1) _ (0,0) (by rfl) Cz8 _ (by rfl)
   refine ⟨A2,n2,rfl,?_,fun a ha=>Nat.le_trans C1.size (hA3 a ha),by (repeat' (first |with_reducible exact Chg.refl _ _|with_reducible assumption|with_reducible refine Chg.drew ?_|with_reducible refine Chg.drewN ?_ _|with_reducible refine Chg.alloc ?_ _|with_reducible refine Chg.putRow ?_ _ _ _ (.inr ?_)|with_reducible refine Chg.setCell ?_ _ _ _ (.inr ?_)|with_reducible refine Chg.trans ?_ c2|with_reducible refine Chg.trans (b:=World.drew _) ?_ c2|with_reducible refine Chg.trans ?_ c3|with_reducible refine Chg.trans (b:=World.drew _) ?_ c3|(show _≤_;first |exact Nat.le_refl _|omega|(simp;done))))⟩
   first
    |exact hs2
    |exact hs2.chg ((Chg.refl [w.heap.size+1] _).putRow _ _ _ (.inl (by simp))) Cz5
    |exact hs2.chg c3 (by simp)
    |exact (hs2.chg c3 (by simp)).chg ((Chg.refl [w.heap.size+1] _).putRow _ _ _ (.inl (by simp))) Cz5
 have t1:(x.bu==1)=false:=by simpa using h1
 by_cases h2:x.bu=2
 ·have t2:(x.bu==2)=true:=by simpa using h2
  rw [show Yt x li=JB (Jf x) x.by_ 10 li by simp [Yt,h2]]
  clear h1 h2
  go_enter Tryz.func170,Tryz.ntmps170
  try dsimp only [List.append]
  go_wp2_with fail
  refine J3 (w:=w) (b1:=w.heap.size) (x1:=.cells (ec (x)) 120 (0,0)) (b2:=w.heap.size+1) (x2:=.cells (ec (enZ)) 120 (0,0)) Cz0 (by simp [*]) (by simp [*]) fun w1 C1 rE rR=>?_
  have oE:=old rE
  have oR:=old rR
  have o0:=h0.chg C1
  go_region_held3 (fun w'=>w'.heap[w.heap.size]? =some (.cells (ec (x)) 120 (0,0))) (first |exact rE|exact c2.keep rE (by simp)|exact c3.keep rE (by simp)|exact c2.keep (by simp [*]) (by simp)|exact c3.keep (by simp [*]) (by simp)|simp [*])
   (first
    |(go_at_call 178;refine (Qik _ _).mono ?_;rintro e w' ⟨rfl,c3⟩;(have rR3:=c3.keep rR (by simp));(have o3:=Old.chg (b:=0) Cz7 c3);(have z3:=c3.size))
    |(go_at_call 221;refine (Qgi _ _ _ _ _ ?_).mono ?_;exact o3;rintro e w' ⟨A2,n2,rfl,hs2,hA2,c2⟩;(have hA3:∀a,A2=some a→w1.heap.size≤a.block:=(fun a ha=>Nat.le_trans z3 (hA2 a ha)));(have rR2:=c2.keep rR3 (by simp))))
  all_goals
   go_wp2_with fail
   refine bodyPost_ret (v:=.tuple #[.agg (ec ((JB (Jf x) x.by_ 10 li).1)),.slice A2 (JB (Jf x) x.by_ 10 li).2.length n2]) ?_ (by rfl) ?_
   ·exact Xy (by rfl) _ _ (w.heap.size+1) _ (0,0) (by rfl) Cz8 _ (by rfl)
   refine ⟨A2,n2,rfl,?_,fun a ha=>Nat.le_trans C1.size (hA3 a ha),by (repeat' (first |with_reducible exact Chg.refl _ _|with_reducible assumption|with_reducible refine Chg.drew ?_|with_reducible refine Chg.drewN ?_ _|with_reducible refine Chg.alloc ?_ _|with_reducible refine Chg.putRow ?_ _ _ _ (.inr ?_)|with_reducible refine Chg.setCell ?_ _ _ _ (.inr ?_)|with_reducible refine Chg.trans ?_ c2|with_reducible refine Chg.trans (b:=World.drew _) ?_ c2|with_reducible refine Chg.trans ?_ c3|with_reducible refine Chg.trans (b:=World.drew _) ?_ c3|(show _≤_;first |exact Nat.le_refl _|omega|(simp;done))))⟩
   first
    |exact hs2
    |exact hs2.chg ((Chg.refl [w.heap.size+1] _).putRow _ _ _ (.inl (by simp))) Cz5
    |exact hs2.chg c3 (by simp)
    |exact (hs2.chg c3 (by simp)).chg ((Chg.refl [w.heap.size+1] _).putRow _ _ _ (.inl (by simp))) Cz5
 ·have t2:(x.bu==2)=false:=by simpa using h2
  rw [show Yt x li=(x,[]) by simp [Yt,h1,h2]]
  clear h1 h2
  go_enter Tryz.func170,Tryz.ntmps170
  try dsimp only [List.append]
  go_wp2_with fail
  refine bodyPost_ret (v:=.tuple #[.agg (ec x),.slice none 0 0]) ?_ (by rfl) ?_
  ·exact Xy (by rfl) _ _ (w.heap.size+1) x (0,0) (by rfl) (by simp) _ (by rfl)
  exact ⟨none,0,rfl,⟨rfl,.inl rfl⟩,by simp,by (repeat' (first |with_reducible exact Chg.refl _ _|with_reducible assumption|with_reducible refine Chg.drew ?_|with_reducible refine Chg.drewN ?_ _|with_reducible refine Chg.alloc ?_ _|with_reducible refine Chg.putRow ?_ _ _ _ (.inr ?_)|with_reducible refine Chg.setCell ?_ _ _ _ (.inr ?_)|(show _≤_;first |exact Nat.le_refl _|omega|(simp;done))))⟩
theorem danswer_any (x:En) (c:Int) (m:Ms) (w:World) (ht:Tab w):Calls Tryz.prog 127 #[.agg (ec x),.int .i64 c,.agg (msc m)] w (En3 w (ansE x c m)):=by
 cases g1:JG x
 ·skip
  rw [show ansE x c m=((enZ,[]),1) from by simp [ansE,Qfx,g1]]
  go_enter Tryz.func127,Tryz.ntmps127
  try dsimp only [List.append]
  go_wp2_with fail
  refine ZV (w:=w) (b1:=w.heap.size) (x1:=.cells (ec (x)) 120 (0,0)) (b2:=w.heap.size+1) (x2:=.cells (msc m) 196 (0,0)) (b3:=w.heap.size+2) (x3:=.cells (ec (enZ)) 120 (0,0)) Cz0 (by simp [*]) (by simp [*]) (by simp [*]) fun w1 C1 rE rM rR=>?_
  have oE:=old rE
  have oM:=old rM
  have oR:=old rR
  refine (Y3 x _ g1 w1).mono ?_
  rintro e w3 ⟨rfl,c3⟩
  have rE3:=c3.keep rE (by simp)
  have rM3:=c3.keep rM (by simp)
  have rR3:=c3.keep rR (by simp)
  have C3:=C1.trans c3
  have o3:=ht.keep C3 (by simp)
  clear rE rM rR oE oM oR C1 c3
  have oE3:=old rE3
  have oM3:=old rM3
  have oR3:=old rR3
  go_wp2_with fail
  refine bodyPost_ret (v:=.tuple #[.agg (ec enZ),.slice none 0 0,.int .i64 1]) ?_ (by rfl) ?_
  ·exact Xo (by rfl) _ _ (w.heap.size+2) enZ (0,0) (by rfl) (by simp [rR3];try rfl) _ _ (by rfl) (by rfl)
  exact En3.err _ _ _ Cz0
 cases g2:isC c
 ·skip
  rw [show ansE x c m=((enZ,[]),1) from by simp [ansE,Qfx,g2]]
  go_enter Tryz.func127,Tryz.ntmps127
  try dsimp only [List.append]
  go_wp2_with fail
  refine ZV (w:=w) (b1:=w.heap.size) (x1:=.cells (ec (x)) 120 (0,0)) (b2:=w.heap.size+1) (x2:=.cells (msc m) 196 (0,0)) (b3:=w.heap.size+2) (x3:=.cells (ec (enZ)) 120 (0,0)) Cz0 (by simp [*]) (by simp [*]) (by simp [*]) fun w1 C1 rE rM rR=>?_
  have oE:=old rE
  have oM:=old rM
  have oR:=old rR
  refine (Y3 x _ g1 w1).mono ?_
  rintro e w3 ⟨rfl,c3⟩
  have rE3:=c3.keep rE (by simp)
  have rM3:=c3.keep rM (by simp)
  have rR3:=c3.keep rR (by simp)
  have C3:=C1.trans c3
  have o3:=ht.keep C3 (by simp)
  clear rE rM rR oE oM oR C1 c3
  have oE3:=old rE3
  have oM3:=old rM3
  have oR3:=old rR3
  go_wp2_with (go_at_call 159;refine (Jt _ _ g2 _).mono ?_;rintro e w' ⟨rfl,rfl⟩)
  refine bodyPost_ret (v:=.tuple #[.agg (ec enZ),.slice none 0 0,.int .i64 1]) ?_ (by rfl) ?_
  ·exact Xo (by rfl) _ _ (w.heap.size+2) enZ (0,0) (by rfl) (by simp [rR3];try rfl) _ _ (by rfl) (by rfl)
  exact En3.err _ _ _ Cz0
 cases g3:mg m
 ·skip
  rw [show ansE x c m=((enZ,[]),1) from by simp [ansE,Qfx,g3]]
  go_enter Tryz.func127,Tryz.ntmps127
  try dsimp only [List.append]
  go_wp2_with fail
  refine ZV (w:=w) (b1:=w.heap.size) (x1:=.cells (ec (x)) 120 (0,0)) (b2:=w.heap.size+1) (x2:=.cells (msc m) 196 (0,0)) (b3:=w.heap.size+2) (x3:=.cells (ec (enZ)) 120 (0,0)) Cz0 (by simp [*]) (by simp [*]) (by simp [*]) fun w1 C1 rE rM rR=>?_
  have oE:=old rE
  have oM:=old rM
  have oR:=old rR
  refine (Y3 x _ g1 w1).mono ?_
  rintro e w3 ⟨rfl,c3⟩
  have rE3:=c3.keep rE (by simp)
  have rM3:=c3.keep rM (by simp)
  have rR3:=c3.keep rR (by simp)
  have C3:=C1.trans c3
  have o3:=ht.keep C3 (by simp)
  clear rE rM rR oE oM oR C1 c3
  have oE3:=old rE3
  have oM3:=old rM3
  have oR3:=old rR3
  go_wp2_with ((go_at_call 159;refine (Jt _ _ g2 _).mono ?_;rintro e w' ⟨rfl,rfl⟩))
  refine (Qau m _ g3 w3 o3).mono ?_
  rintro e w4 ⟨rfl,c4⟩
  have rE4:=c4.keep rE3 (by simp)
  have rM4:=c4.keep rM3 (by simp)
  have rR4:=c4.keep rR3 (by simp)
  have C4:=C3.trans c4
  have o4:=ht.old0.chg C4
  clear rE3 rM3 rR3 oE3 oM3 oR3 C3 c4 o3
  have oE4:=old rE4
  have oM4:=old rM4
  have oR4:=old rR4
  go_wp2_with fail
  refine bodyPost_ret (v:=.tuple #[.agg (ec enZ),.slice none 0 0,.int .i64 1]) ?_ (by rfl) ?_
  ·exact Xo (by rfl) _ _ (w.heap.size+2) enZ (0,0) (by rfl) (by simp [rR4];try rfl) _ _ (by rfl) (by rfl)
  exact En3.err _ _ _ Cz0
 cases g4:Qbg m.kd
 ·skip
  rw [show ansE x c m=((enZ,[]),1) from by simp [ansE,Qfx,g4]]
  go_enter Tryz.func127,Tryz.ntmps127
  try dsimp only [List.append]
  go_wp2_with fail
  refine ZV (w:=w) (b1:=w.heap.size) (x1:=.cells (ec (x)) 120 (0,0)) (b2:=w.heap.size+1) (x2:=.cells (msc m) 196 (0,0)) (b3:=w.heap.size+2) (x3:=.cells (ec (enZ)) 120 (0,0)) Cz0 (by simp [*]) (by simp [*]) (by simp [*]) fun w1 C1 rE rM rR=>?_
  have oE:=old rE
  have oM:=old rM
  have oR:=old rR
  refine (Y3 x _ g1 w1).mono ?_
  rintro e w3 ⟨rfl,c3⟩
  have rE3:=c3.keep rE (by simp)
  have rM3:=c3.keep rM (by simp)
  have rR3:=c3.keep rR (by simp)
  have C3:=C1.trans c3
  have o3:=ht.keep C3 (by simp)
  clear rE rM rR oE oM oR C1 c3
  have oE3:=old rE3
  have oM3:=old rM3
  have oR3:=old rR3
  go_wp2_with ((go_at_call 159;refine (Jt _ _ g2 _).mono ?_;rintro e w' ⟨rfl,rfl⟩))
  refine (Qau m _ g3 w3 o3).mono ?_
  rintro e w4 ⟨rfl,c4⟩
  have rE4:=c4.keep rE3 (by simp)
  have rM4:=c4.keep rM3 (by simp)
  have rR4:=c4.keep rR3 (by simp)
  have C4:=C3.trans c4
  have o4:=ht.old0.chg C4
  clear rE3 rM3 rR3 oE3 oM3 oR3 C3 c4 o3
  have oE4:=old rE4
  have oM4:=old rM4
  have oR4:=old rR4
  go_wp2_with (go_at_call 167;refine (Qed _ _ g4 _).mono ?_;rintro e w' ⟨rfl,rfl⟩)
  refine bodyPost_ret (v:=.tuple #[.agg (ec enZ),.slice none 0 0,.int .i64 1]) ?_ (by rfl) ?_
  ·exact Xo (by rfl) _ _ (w.heap.size+2) enZ (0,0) (by rfl) (by simp [rR4];try rfl) _ _ (by rfl) (by rfl)
  exact En3.err _ _ _ Cz0
 have ga:Qfx x c m=true:=by simp [Qfx,g1,g2,g3,g4]
 cases hb:hasM x.wa c
 ·rw [show ansE x c m=((enZ,[]),16) from by simp [ansE,ga,hb]]
  clear ga
  go_enter Tryz.func127,Tryz.ntmps127
  try dsimp only [List.append]
  go_wp2_with fail
  refine ZV (w:=w) (b1:=w.heap.size) (x1:=.cells (ec (x)) 120 (0,0)) (b2:=w.heap.size+1) (x2:=.cells (msc m) 196 (0,0)) (b3:=w.heap.size+2) (x3:=.cells (ec (enZ)) 120 (0,0)) Cz0 (by simp [*]) (by simp [*]) (by simp [*]) fun w1 C1 rE rM rR=>?_
  have oE:=old rE
  have oM:=old rM
  have oR:=old rR
  refine (Y3 x _ g1 w1).mono ?_
  rintro e w3 ⟨rfl,c3⟩
  have rE3:=c3.keep rE (by simp)
  have rM3:=c3.keep rM (by simp)
  have rR3:=c3.keep rR (by simp)
  have C3:=C1.trans c3
  have o3:=ht.keep C3 (by simp)
  clear rE rM rR oE oM oR C1 c3
  have oE3:=old rE3
  have oM3:=old rM3
  have oR3:=old rR3
  go_wp2_with ((go_at_call 159;refine (Jt _ _ g2 _).mono ?_;rintro e w' ⟨rfl,rfl⟩))
  refine (Qau m _ g3 w3 o3).mono ?_
  rintro e w4 ⟨rfl,c4⟩
  have rE4:=c4.keep rE3 (by simp)
  have rM4:=c4.keep rM3 (by simp)
  have rR4:=c4.keep rR3 (by simp)
  have C4:=C3.trans c4
  have o4:=ht.old0.chg C4
  clear rE3 rM3 rR3 oE3 oM3 oR3 C3 c4 o3
  have oE4:=old rE4
  have oM4:=old rM4
  have oR4:=old rR4
  go_wp2_with (first |(go_at_call 167;refine (Qed _ _ g4 _).mono ?_;rintro e w' ⟨rfl,rfl⟩)|(go_at_call 168;refine (Qfh _ _ _).mono ?_;rintro e w' ⟨rfl,rfl⟩;rw [hb]))
  refine bodyPost_ret (v:=.tuple #[.agg (ec enZ),.slice none 0 0,.int .i64 16]) ?_ (by rfl) ?_
  ·exact Xo (by rfl) _ _ (w.heap.size+2) enZ (0,0) (by rfl) (by simp [rR4];try rfl) _ _ (by rfl) (by rfl)
  exact En3.err _ _ _ Cz0
 ·cases hw:((QQ x c m).wa !=0#8)
  ·rw [show ansE x c m=(Yt (QQ x c m) m.li,0) from by simp [ansE,ga,hb];intro h;simp [h] at hw]
   clear ga
   go_enter Tryz.func127,Tryz.ntmps127
   try dsimp only [List.append]
   go_wp2_with fail
   refine ZV (w:=w) (b1:=w.heap.size) (x1:=.cells (ec (x)) 120 (0,0)) (b2:=w.heap.size+1) (x2:=.cells (msc m) 196 (0,0)) (b3:=w.heap.size+2) (x3:=.cells (ec (enZ)) 120 (0,0)) Cz0 (by simp [*]) (by simp [*]) (by simp [*]) fun w1 C1 rE rM rR=>?_
   have oE:=old rE
   have oM:=old rM
   have oR:=old rR
   refine (Y3 x _ g1 w1).mono ?_
   rintro e w3 ⟨rfl,c3⟩
   have rE3:=c3.keep rE (by simp)
   have rM3:=c3.keep rM (by simp)
   have rR3:=c3.keep rR (by simp)
   have C3:=C1.trans c3
   have o3:=ht.keep C3 (by simp)
   clear rE rM rR oE oM oR C1 c3
   have oE3:=old rE3
   have oM3:=old rM3
   have oR3:=old rR3
   go_wp2_with ((go_at_call 159;refine (Jt _ _ g2 _).mono ?_;rintro e w' ⟨rfl,rfl⟩))
   refine (Qau m _ g3 w3 o3).mono ?_
   rintro e w4 ⟨rfl,c4⟩
   have rE4:=c4.keep rE3 (by simp)
   have rM4:=c4.keep rM3 (by simp)
   have rR4:=c4.keep rR3 (by simp)
   have C4:=C3.trans c4
   have o4:=ht.old0.chg C4
   clear rE3 rM3 rR3 oE3 oM3 oR3 C3 c4 o3
   have oE4:=old rE4
   have oM4:=old rM4
   have oR4:=old rR4
   go_wp2_with (first |(go_at_call 167;refine (Qed _ _ g4 _).mono ?_;rintro e w' ⟨rfl,rfl⟩)|(go_at_call 168;refine (Qfh _ _ _).mono ?_;rintro e w' ⟨rfl,rfl⟩;rw [hb]))
   refine (Qfo x c m w4).mono ?_
   rintro e w5 ⟨rfl,c5⟩
   have rE5:=c5.keep rE4 (by simp)
   have rM5:=c5.keep rM4 (by simp)
   have rR5:=c5.keep rR4 (by simp)
   have C5:=C4.trans c5
   clear rE4 rM4 rR4 oE4 oM4 oR4 C4 c5 o4
   have oE5:=old rE5
   have oM5:=old rM5
   have oR5:=old rR5
   go_wp2_with fail
   refine ZV (w:=w) (b1:=w.heap.size) (x1:=.cells (ec (QQ x c m)) 120 (0,0)) (b2:=w.heap.size+1) (x2:=.cells (msc m) 196 (0,0)) (b3:=w.heap.size+2) (x3:=.cells (ec (enZ)) 120 (0,0)) Cz0 (by simp [*]) (by simp [*]) (by simp [*]) fun w6 C6 rE6 rM6 rR6=>?_
   have oE6:=old rE6
   have oM6:=old rM6
   have oR6:=old rR6
   refine (dsettled_any (QQ x c m) m.li w6 (ht.old0.chg C6)).mono ?_
   rintro e w2 ⟨A2,n2,rfl,hs2,hA3,c2⟩
   have rE2:=c2.keep rE6 (by simp)
   have rR2:=c2.keep rR6 (by simp)
   have oE2:=old rE2
   have oR2:=old rR2
   go_wp2_with fail
   refine bodyPost_ret (v:=.tuple #[.agg (ec (Yt (QQ x c m) m.li).1),.slice A2 (Yt (QQ x c m) m.li).2.length n2,.int .i64 0]) ?_ (by rfl) ?_
   ·exact Xo (by rfl) _ _ (w.heap.size+2) (Yt (QQ x c m) m.li).1 (0,0) (by rfl) (by simp [rR2,rE2];done) _ _ (by rfl) (by rfl)
   refine ⟨A2,n2,rfl,?_,fun a ha=>Nat.le_trans C6.size (hA3 a ha),by (repeat' (first |with_reducible exact Chg.refl _ _|with_reducible assumption|with_reducible refine Chg.drew ?_|with_reducible refine Chg.drewN ?_ _|with_reducible refine Chg.alloc ?_ _|with_reducible refine Chg.putRow ?_ _ _ _ (.inr ?_)|with_reducible refine Chg.setCell ?_ _ _ _ (.inr ?_)|with_reducible refine Chg.trans ?_ c2|with_reducible refine Chg.trans (b:=World.drew _) ?_ c2|(show _≤_;first |exact Nat.le_refl _|omega|(simp;done))))⟩
   exact hs2.chg (((Chg.refl [w.heap.size,w.heap.size+2] _).putRow _ _ _ (.inl (by simp))).putRow _ _ _ (.inl (by simp))) (by intro a ha;have:=hA3 a ha;have:=oR6.lt;have:=oE6.lt;simp;omega)
  ·rw [show ansE x c m=((QQ x c m,[]),0) from by simp [ansE,ga,hb];intro h;simp [h] at hw]
   clear ga
   go_enter Tryz.func127,Tryz.ntmps127
   try dsimp only [List.append]
   go_wp2_with fail
   refine ZV (w:=w) (b1:=w.heap.size) (x1:=.cells (ec (x)) 120 (0,0)) (b2:=w.heap.size+1) (x2:=.cells (msc m) 196 (0,0)) (b3:=w.heap.size+2) (x3:=.cells (ec (enZ)) 120 (0,0)) Cz0 (by simp [*]) (by simp [*]) (by simp [*]) fun w1 C1 rE rM rR=>?_
   have oE:=old rE
   have oM:=old rM
   have oR:=old rR
   refine (Y3 x _ g1 w1).mono ?_
   rintro e w3 ⟨rfl,c3⟩
   have rE3:=c3.keep rE (by simp)
   have rM3:=c3.keep rM (by simp)
   have rR3:=c3.keep rR (by simp)
   have C3:=C1.trans c3
   have o3:=ht.keep C3 (by simp)
   clear rE rM rR oE oM oR C1 c3
   have oE3:=old rE3
   have oM3:=old rM3
   have oR3:=old rR3
   go_wp2_with ((go_at_call 159;refine (Jt _ _ g2 _).mono ?_;rintro e w' ⟨rfl,rfl⟩))
   refine (Qau m _ g3 w3 o3).mono ?_
   rintro e w4 ⟨rfl,c4⟩
   have rE4:=c4.keep rE3 (by simp)
   have rM4:=c4.keep rM3 (by simp)
   have rR4:=c4.keep rR3 (by simp)
   have C4:=C3.trans c4
   have o4:=ht.old0.chg C4
   clear rE3 rM3 rR3 oE3 oM3 oR3 C3 c4 o3
   have oE4:=old rE4
   have oM4:=old rM4
   have oR4:=old rR4
   go_wp2_with (first |(go_at_call 167;refine (Qed _ _ g4 _).mono ?_;rintro e w' ⟨rfl,rfl⟩)|(go_at_call 168;refine (Qfh _ _ _).mono ?_;rintro e w' ⟨rfl,rfl⟩;rw [hb]))
   refine (Qfo x c m w4).mono ?_
   rintro e w5 ⟨rfl,c5⟩
   have rE5:=c5.keep rE4 (by simp)
   have rM5:=c5.keep rM4 (by simp)
   have rR5:=c5.keep rR4 (by simp)
   have C5:=C4.trans c5
   clear rE4 rM4 rR4 oE4 oM4 oR4 C4 c5 o4
   have oE5:=old rE5
   have oM5:=old rM5
   have oR5:=old rR5
   go_wp2_with fail
   refine bodyPost_ret (v:=.tuple #[.agg (ec (QQ x c m)),.slice none 0 0,.int .i64 0]) ?_ (by rfl) ?_
   ·exact Xo (by rfl) _ _ (w.heap.size+2) (QQ x c m) (0,0) (by rfl) Cz9 _ _ (by rfl) (by rfl)
   exact ⟨none,0,rfl,⟨rfl,.inl rfl⟩,by simp,by (repeat' (first |with_reducible exact Chg.refl _ _|with_reducible assumption|with_reducible refine Chg.drew ?_|with_reducible refine Chg.drewN ?_ _|with_reducible refine Chg.alloc ?_ _|with_reducible refine Chg.putRow ?_ _ _ _ (.inr ?_)|with_reducible refine Chg.setCell ?_ _ _ _ (.inr ?_)|(show _≤_;first |exact Nat.le_refl _|omega|(simp;done))))⟩
theorem dready_at (x:En) (b:Bool) (h:JJ x=b) (w:World):Calls Tryz.prog 177 #[.agg (ec x)] w fun e w'=>e=.returned (.bool b)∧Chg [] w w':=h▸dready_any x w
end
section
attribute [local go_sem ↓] Qv QF Qy QO QE Qs Zg Q6 ZF Zu Qk Qh heap_alloc Ql heap_setCell Qc XG XJ XI Zi ZK Zt Xc ZL Xm Xl Xr Xq
attribute [local go_sem] Qb Qa Qd Qi Qe Qg Qf Qt Zk Zf ZD QB Qw QN QL QM Q5 QK QA Qr QD QW QJ Qq QC Qp Qj Qo Qn Qm Zj Zv lit8 QS Z2 ZE ZG ZN Zn ZH Xb ZI QH ZJ Zy Zz QV QU Za Xs
attribute [local simp] Qb Qa Qd Qi Qe Qg Qf Qt Qr Qj Qo Qn Qm QS QH QV QU Za QD
attribute [local go_sem ↓] Yx Y4 Y5 J8
attribute [local simp] Yx
theorem cat_row {α:Type} {k:Nat} {enc:α→List Value} (hk:∀a,(enc a).length=k):∀(xs:List α) (i:Nat) (a b:α),xs[i]? =some a→Zx (cat enc xs) (i*k) (enc b)=cat enc (xs.set i b)
 |[],i,a,b,h=>by simp at h
 |x::xs,0,a,b,h=>by
  simp only [List.set_cons_zero,XY,Nat.zero_mul]
  unfold Zx
  rw [List.take_zero,List.nil_append,Nat.zero_add,hk b,←hk x,List.drop_left]
 |x::xs,i+1,a,b,h=>by
  simp only [List.getElem?_cons_succ] at h
  have ih:=cat_row hk xs i a b h
  simp only [List.set_cons_succ,XY]
  rw [←ih]
  unfold Zx
  have e:(i+1)*k=(enc x).length+i*k:=by rw [hk,Nat.add_mul];omega
  rw [e,List.take_append,List.take_of_length_le (by omega),show (enc x).length+i*k-(enc x).length=i*k by omega,Nat.add_assoc,List.drop_append,List.drop_eq_nil_of_le (by omega),show (enc x).length+(i*k+(enc b).length)-(enc x).length=i*k+(enc b).length by omega]
  simp
theorem sq_putRow {α:Type} {k:Nat} {enc:α→List Value} (hk:∀a,(enc a).length=k) {xs:List α} {i:Nat} {a:α} (b:α) (h:xs[i]? =some a) (t:TypeId) (f:Nat×Nat):JZ (some (.cells (sq enc xs []) t f)) (i*k) (enc b).toArray=some (.cells (sq enc (xs.set i b) []) t f):=by
 rw [Xx,X7,List.append_nil,List.toList_toArray,cat_row hk xs i a b h]
 unfold sq
 rw [List.append_nil]
theorem erow {en:List En} {i:Nat} {e:En} (h:en[i]? =some e) (t:TypeId) (f:Nat×Nat):XM (some (.cells (sq En.enc en []) t f)) (i*15) 15=ec e:=by
 have:=Qci En.len h [] t f 0 15 (by omega)
 rw [Nat.add_zero] at this
 rw [this,List.drop_zero,List.take_of_length_le (by rw [En.len];exact Nat.le_refl _)]
 rfl
theorem Qek {en:List En} {i:Nat} {e:En} (h:en[i]? =some e) (t:TypeId) (f:Nat×Nat):Qbq (some (.cells (sq En.enc en []) t f)) (i*15) 15=true:=Qe3 En.len (Vg h).1 [] t f 0 15 (by omega)
theorem erowHas {en:List En} {i:Nat} {e:En} (h:en[i]? =some e) (t:TypeId):ZO (some (.cells (sq En.enc en []) t (0,0))) (i*15) 15=true:=by
 have:=Qek h t (0,0)
 rw [Qi] at this
 rw [Qd];exact this
theorem ec_setHe' (e:En) (b:Bool):(ec e).setIfInBounds 0 (.bool b)=ec (e.setHe b):=by simp [ec,En.enc,En.tail,En.setHe]
attribute [local go_sem] ec_setHe'
attribute [local simp] ec_setHe'
theorem MTo.loc {W w w1 w2:World} {c:Cg} {z z':Lay} {L L':List (Po×Pt)} {en:List En} {es:List Ent} {xs:List Int} (h:MTo W w c z L z' L' en es xs w1) {l:List Nat} (hc:Chg l w1 w2) (hl:∀k∈l,W.heap.size≤k∧w.heap.size≤k∧k∉z'.all L'):MTo W w c z L z' L' en es xs w2:=
 ⟨h.1.keepL hc (fun k hk=>(hl k hk).2.2) (fun k hk=>(hl k hk).1),h.2.1.trans' hc (fun k hk=>.inr (hl k hk).2.1),h.2.2⟩
section
variable {W:World} {c:Cg} {z:Lay} {L:List (Po×Pt)} {en:List En} {es:List Ent} {xs:List Int}
theorem zentry_ok (i:Nat) (e:En) (w:World) (h:Msd W w c z L en es xs) (he:en[i]? =some e):Calls Tryz.prog 47 #[.pointer (some ⟨z.sy,0,none⟩),.int .i64 i] w fun r w'=>r=.returned (.agg (ec e))∧Chg [] w w':=by
 have hi:i<c.li:=by rw [←h.lines];exact (Vg he).1
 have rS:=h.sys
 have rE:=h.ents
 have oS:=old rS
 have oE:=old rE
 have p0:=fun t f=>erow he t f
 have p1:=fun t f=>Qek he t f
 have g0:(0:Int)≤(i:Int):=by omega
 have g1:(i:Int)<(c.li:Int):=by omega
 have HH:=Vh h
 have HI:=Vh hi
 clear h he hi
 go_enter Tryz.func47,Tryz.ntmps47
 try dsimp only [List.append]
 go_wp2_with (first |(go_at_call 78;refine (ZT i true (by unfold inB;have:=HI.out;simp;omega) _ (HH.out.keep ((Chg.refl [] w).alloc _))).mono ?_;rintro e w' ⟨rfl,rfl⟩))
 refine bodyPost_ret (v:=.agg (ec e)) ?_ (by rfl) ?_
 ·exact X2 (by rfl) _ _ (w.heap.size) e (0,0) (by rfl) (by simp [*])
 exact ⟨rfl,by (repeat' (first |with_reducible exact Chg.refl _ _|with_reducible assumption|with_reducible refine Chg.drew ?_|with_reducible refine Chg.drewN ?_ _|with_reducible refine Chg.alloc ?_ _|with_reducible refine Chg.putRow ?_ _ _ _ (.inr ?_)|with_reducible refine Chg.setCell ?_ _ _ _ (.inr ?_)|(show _≤_;first |exact Nat.le_refl _|omega|(simp;done))))⟩
theorem zentry_off (k:Int) (w:World) (h:Msd W w c z L en es xs) (hk:inB k c.li=false):Calls Tryz.prog 47 #[.pointer (some ⟨z.sy,0,none⟩),.int .i64 k] w fun r w'=>r=.returned (.agg (ec enE))∧Chg [] w w':=by
 have HH:=Vh h
 have HK:=Vh hk
 clear h hk
 go_enter Tryz.func47,Tryz.ntmps47
 try dsimp only [List.append]
 go_wp2_with (first |(go_at_call 78;refine (ZT k false HK.out _ (HH.out.keep ((Chg.refl [] w).alloc _))).mono ?_;rintro e w' ⟨rfl,rfl⟩))
 refine (Qea _).mono ?_
 rintro e w2 ⟨rfl,c2⟩
 have C2:=((Chg.refl [] w).alloc _).trans c2
 have r2:w2.heap[w.heap.size]? =some (.cells (ec enZ) 120 (0,0)):=c2.keep (by simp) Vn
 have o2:=old r2
 go_wp2_with fail
 refine bodyPost_ret (v:=.agg (ec enE)) ?_ (by rfl) ?_
 ·exact X2 (by rfl) _ _ (w.heap.size) enE (0,0) (by rfl) (by simp [*])
 exact ⟨rfl,by (repeat' (first |with_reducible exact Chg.refl _ _|with_reducible assumption|with_reducible refine Chg.drew ?_|with_reducible refine Chg.drewN ?_ _|with_reducible refine Chg.alloc ?_ _|with_reducible refine Chg.putRow ?_ _ _ _ (.inr ?_)|with_reducible refine Chg.setCell ?_ _ _ _ (.inr ?_)|(show _≤_;first |exact Nat.le_refl _|omega|(simp;done))))⟩
def hereE (e:En) (l:List Int) (h:l.length=8):En:=if e.he=true then e else (e.setHe true).setL l h
theorem zhere_ok (i:Nat) (e:En) (w:World) (h:Msd W w c z L en es xs) (he:en[i]? =some e) (l:List Int) (hl:l.length=8) (hX:ln (over xs es) i=l):
 Calls Tryz.prog 123 #[.pointer (some ⟨z.sy,0,none⟩),.int .i64 i] w fun r w'=>r=.returned (.agg (ec (hereE e l hl)))∧∃be',MTo W w c z L {z with be:=be'} L en es xs w':=by
 have hi:i<c.li:=by rw [←h.lines];exact (Vg he).1
 have rS:=h.sys
 have rE:=h.ents
 have oS:=old rS
 have oE:=old rE
 have p0:=fun t f=>erow he t f
 have p1:=fun t f=>Qek he t f
 have g0:(0:Int)≤(i:Int):=by omega
 have g1:(i:Int)<(c.li:Int):=by omega
 have HH:=Vh h
 have HI:=Vh hi
 have HX:=Vh hX
 cases hh:e.he
 ·have HE:=Vh (show hereE e l hl=(e.setHe true).setL l hl by unfold hereE;rw [if_neg (by simp [hh])])
  clear h he hi hX
  go_enter Tryz.func123,Tryz.ntmps123
  try dsimp only [List.append]
  have r1:((w.alloc (.cells (ec enZ) 120)).alloc (.cells (ec e) 120)).heap[w.heap.size]? =some (.cells (ec enZ) 120 (0,0)):=by simp
  have r2:((w.alloc (.cells (ec enZ) 120)).alloc (.cells (ec e) 120)).heap[w.heap.size+1]? =some (.cells (ec e) 120 (0,0)):=by simp
  have C2:=Vh (((Chg.refl [] w).alloc (.cells (ec enZ) 120)).alloc (.cells (ec e) 120))
  go_upto_region 2 with fail
  clear p0 p1 rE oE
  generalize hb1:w.heap.size=b1 at r1 r2 ⊢
  generalize (w.alloc (.cells (ec enZ) 120)).alloc (.cells (ec e) 120)=w2 at r1 r2 C2 ⊢
  have o1:=old r1
  have o2:=old r2
  replace rS:=C2.out.keep rS (by simp)
  replace oS:=old rS
  have HB1:=Vh hb1
  have NS:=Xe HH.out.sys
  have ns1:z.sy≠b1:=by rw [←hb1];omega
  have ns2:z.sy≠b1+1:=by rw [←hb1];omega
  have ns3:b1≠z.sy:=Ne.symm ns1
  have ns4:b1+1≠z.sy:=Ne.symm ns2
  clear hb1 NS
  have r3:(w2.setCell ⟨b1+1,0,none⟩ (.bool true)).heap[b1+1]? =some (.cells (ec (e.setHe true)) 120 (0,0)):=by simp [r2]
  have r4:(w2.setCell ⟨b1+1,0,none⟩ (.bool true)).heap[b1]? =some (.cells (ec enZ) 120 (0,0)):=by simp [r1]
  have C3:=Vh (C2.out.setCell (b1+1) 0 (.bool true) (.inr (by rw [HB1.out];omega)))
  go_wp2_with fail
  generalize w2.setCell ⟨b1+1,0,none⟩ (.bool true)=w3 at r3 r4 C3 ⊢
  clear r1 r2 o1 o2 C2
  refine (sys_read (HH.out.keep C3.out).mem i HI.out).mono ?_
  rintro r w4 ⟨rfl,be',hs4,hc4,hb4⟩
  rw [HX.out]
  have NB:∀k,w.heap.size≤k→k∉[z.q,z.be,z.g,z.b]:=fun k hk=>HH.out.mem.new4 hk
  have r5:=hc4.keep r3 (NB _ (by rw [HB1.out];omega))
  have r6:=hc4.keep r4 (NB _ (by rw [HB1.out];omega))
  have o5:=old r5
  have o6:=old r6
  have NL:=Vh (show ∀k∈[b1+1,b1],W.heap.size≤k∧w.heap.size≤k∧k∉({z with be:=be'}:Lay).all L by
   have h1:=((HH.out.keep C3.out).memory hs4 hc4 hb4).2.2
   have h2:=HH.out.old
   have h3:=HH.out.chg.size
   have h4:=Xe r3
   have h5:=HB1.out
   intro k hk
   simp only [List.mem_cons,Vn,or_false] at hk
   refine ⟨by omega,by omega,fun hm=>?_⟩
   rcases h1 k hm with h6|h6
   ·have:=h2 k h6;omega
   ·omega)
  have M4:=Vh ((HH.out.stay C3.out).trans ((HH.out.keep C3.out).memory hs4 hc4 hb4))
  clear r3 r4 C3 rS oS hs4 hc4 hb4 NB
  have p2:∀t f,JZ (some (.cells (ec (e.setHe true)) t f)) 2 (vs l)=some (.cells (ec ((e.setHe true).setL l hl)) t f):=fun t f=>ec_put _ l hl t f
  have hv:(vs l).size=8:=by rw [Qt];exact hl
  go_wp2_with fail
  have HE2:=HE.out
  refine bodyPost_ret (v:=.agg (ec ((e.setHe true).setL l hl))) ?_ (by rfl) ?_
  ·exact X2 (by rfl) _ _ b1 ((e.setHe true).setL l hl) (0,0) (by rfl) (by rw [Qc _ _ _ _ _ (by rw [Qc _ _ _ _ _ (by rw [r5,hv];exact Z1 _ _),if_neg (by omega),r6,Zh];rfl),if_pos rfl,Qc _ _ _ _ _ (by rw [r5,hv];exact Z1 _ _),if_neg (by omega),r6,Qg _ _ _ _ (by rw [Zh,Zh])])
  rw [HE2]
  exact ⟨rfl,be',M4.out.loc (((Chg.refl [b1+1,b1] w4).putRow (b1+1) 2 (vs l) (.inl (by simp))).putRow b1 0 _ (.inl (by simp))) NL.out⟩
 ·have HE:=Vh (show hereE e l hl=e by unfold hereE;rw [if_pos hh])
  clear h he hi hX
  go_enter Tryz.func123,Tryz.ntmps123
  try dsimp only [List.append]
  go_wp2_with fail
  refine bodyPost_ret (v:=.agg (ec e)) ?_ (by rfl) ?_
  ·exact X2 (by rfl) _ _ w.heap.size e (0,0) (by rfl) (by simp [*])
  rw [HE.out]
  exact ⟨rfl,z.be,HH.out.stay Cz0⟩
end
end
section
attribute [local go_sem ↓] Qv QF Qy QO QE Qs Zg Q6 ZF Zu Qk Qh heap_alloc Ql heap_setCell Qc XG XJ XI Zi ZK Zt Xc ZL Xm Xl Xr Xq
attribute [local go_sem] Qb Qa Qd Qi Qe Qg Qf Qt Zk Zf ZD QB Qw QN QL QM Q5 QK QA Qr QD QW QJ Qq QC Qp Qj Qo Qn Qm Zj Zv lit8 QS Z2 ZE ZG ZN Zn ZH Xb ZI QH ZJ Zy Zz QV QU Za Xs
attribute [local simp] Qb Qa Qd Qi Qe Qg Qf Qt Qr Qj Qo Qn Qm QS QH QV QU Za QD
attribute [local go_sem ↓] Yx Y4 Y5 J8
attribute [local simp] Yx
section
variable {W:World} {c:Cg} {z:Lay} {L:List (Po×Pt)} {en:List En} {es:List Ent} {xs:List Int}
theorem zsave_clean (i:Nat) (e:En) (w:World) (h:Msd W w c z L en es xs) (he:en[i]? =some e) (hd:e.di=false):Calls Tryz.prog 131 #[.pointer (some ⟨z.sy,0,none⟩),.int .i64 i] w fun r w'=>r=.returned (.int .i64 0)∧Chg [] w w':=by
 have hi:i<c.li:=by rw [←h.lines];exact (Vg he).1
 have rS:=h.sys
 have rE:=h.ents
 have oS:=old rS
 have oE:=old rE
 have p0:=fun t f=>erow he t f
 have p1:=fun t f=>Qek he t f
 have g0:(0:Int)≤(i:Int):=by omega
 have g1:(i:Int)<(c.li:Int):=by omega
 clear h he hi
 go_enter Tryz.func131,Tryz.ntmps131
 try dsimp only [List.append]
 go_wp2_with fail
 go_ret
 exact ⟨rfl,by (repeat' (first |with_reducible exact Chg.refl _ _|with_reducible assumption|with_reducible refine Chg.drew ?_|with_reducible refine Chg.drewN ?_ _|with_reducible refine Chg.alloc ?_ _|with_reducible refine Chg.putRow ?_ _ _ _ (.inr ?_)|with_reducible refine Chg.setCell ?_ _ _ _ (.inr ?_)|(show _≤_;first |exact Nat.le_refl _|omega|(simp;done))))⟩
theorem zsave_dirty (i:Nat) (e:En) (w:World) (h:Msd W w c z L en es xs) (he:en[i]? =some e) (hd:e.di=true):Calls Tryz.prog 131 #[.pointer (some ⟨z.sy,0,none⟩),.int .i64 i] w fun r w'=>r=.returned (.int .i64 (Qdw c.li c.qu es i))∧∃be',MTo W w c z L {z with be:=be'} L en (pushEs c.li c.qu es i e.l e.h) xs w':=by
 have hi:i<c.li:=by rw [←h.lines];exact (Vg he).1
 have rS:=h.sys
 have rE:=h.ents
 have oS:=old rS
 have oE:=old rE
 have p0:=fun t f=>erow he t f
 have p1:=fun t f=>Qek he t f
 have g0:(0:Int)≤(i:Int):=by omega
 have g1:(i:Int)<(c.li:Int):=by omega
 have HH:=Vh h
 have hp:=fun w1 (c1:Chg [] w w1)=>any_push (h.keep c1).mem (i:Int) e.l e.h
 have HP:=Vh hp
 have n6:=h.ne6
 have NS:=Vh (show z.sy∉[z.q,z.be,z.g,z.b] by simp only [List.mem_cons,Vn,or_false,not_or];exact ⟨n6.1.1,Ne.symm n6.2.2.2.2.2.1,n6.1.2.1,n6.1.2.2.1⟩)
 have NX:=Vh (show w.heap.size∉[z.q,z.be,z.g,z.b] from h.mem.new4 (Nat.le_refl _))
 clear h he hi hp n6
 go_enter Tryz.func131,Tryz.ntmps131
 try dsimp only [List.append]
 go_upto_region 2 with fail
 have r1:(w.alloc (.cells (ec e) 120)).heap[w.heap.size]? =some (.cells (ec e) 120 (0,0)):=by simp
 have C1:=Vh ((Chg.refl [] w).alloc (.cells (ec e) 120))
 clear p0 p1 rE oE
 generalize w.heap.size=b1 at r1 NX ⊢
 generalize w.alloc (.cells (ec e) 120)=w2 at r1 C1 ⊢
 replace rS:=C1.out.keep rS Vn
 have o1:=old r1
 replace oS:=old rS
 go_wp2_with fail
 go_region_held3 (fun w'=>w'.heap[b1]? =some (.cells (ec e) 120 (0,0))∧w'.heap[z.sy]? =some (.cells (z.enc c).toArray 116 (0,0))) (first |exact ⟨hc4.keep r1 NX.out,hc4.keep rS NS.out⟩|exact ⟨r1,rS⟩)
  (first
   |(go_at_call 181;refine (HP.out _ (C1.out.trans (Chg.refl [] w2).drew)).mono ?_;rintro r w' ⟨rfl,be',hs4,hc4,hb4⟩))
 all_goals
  have HN:=Vh ((HH.out.stay (C1.out.trans (Chg.refl [] w2).drew)).trans ((HH.out.keep (C1.out.trans (Chg.refl [] w2).drew)).memory hs4 hc4 hb4))
  clear hs4 hc4 hb4
  go_wp2_with fail
  go_ret
  exact ⟨rfl,be',HN.out⟩
theorem sd_whole {w wr:World} {l:List Nat} {n b o k:Nat} {ys:List Sd} {y:Sd} (h:Sl w 13 (some ⟨b,o,none⟩) n (cat Sd.enc ys)) (hc:Chg l w wr) (hb:b∉l) (hk:k<n) (hy:ys[k]? =some y):
 ∃c t f,wr.heap[b]? =some (.cells c t f)∧Qbq (some (.cells c t f)) (o+k*13) 13=true∧XM (some (.cells c t f)) (o+k*13) 13=sc y:=by
 obtain ⟨cs,t,f,hb,_,hpa⟩:=(h.chg hc (by simpa using hb)).elem (by omega) hk (Ju Sd.len hy)
 obtain ⟨r1,r2⟩:=hpa 0 13 (by omega)
 rw [Nat.add_zero] at r1 r2
 refine ⟨cs,t,f,hb,r1,?_⟩
 rw [r2]
 simp [sc,Sd.len,List.take_of_length_le]
def Qhz (ps:List Pt) (d:Sd):List Pt:=match ps[d.to.toNat]? with
 |some x=>ps.set d.to.toNat {x with dn:=x.dn++[d.m]}
 |none=>ps
def Y9 (ps:List Pt) (l:List Sd):List Pt:=l.foldl Qhz ps
def ports (L:List (Po×Pt)):List Pt:=L.map (·.2)
theorem X8 (L:List (Po×Pt)) (i:Nat) (y:Po×Pt):ports (L.set i y)=(ports L).set i y.2:=by unfold ports;rw [List.map_set]
theorem Qhh {L:List (Po×Pt)} {i:Nat} {p:Po} {x:Pt} (h:L[i]? =some (p,x)):(ports L)[i]? =some x:=by unfold ports;rw [List.getElem?_map,h];rfl
theorem Je {L:List (Po×Pt)} {i:Nat} {x:Pt} (h:(ports L)[i]? =some x):∃p,L[i]? =some (p,x):=by
 unfold ports at h
 rw [List.getElem?_map] at h
 cases hl:L[i]? with
 |none=>rw [hl] at h;cases h
 |some y=>rw [hl] at h;obtain ⟨p,x'⟩:=y;cases h;exact ⟨p,rfl⟩
theorem sendP_snoc (ps:List Pt) (l:List Sd) (d:Sd):Y9 ps (l++[d])=Qhz (Y9 ps l) d:=by unfold Y9;rw [List.foldl_append];rfl
theorem sendTo_some {ps:List Pt} {k:Nat} {x:Pt} {m:Ms} (h:ps[k]? =some x):Qhz ps ⟨(k:Int),m⟩=ps.set k {x with dn:=x.dn++[m]}:=by
 unfold Qhz
 rw [show (⟨(k:Int),m⟩:Sd).to.toNat=k from rfl,h]
theorem sendP_dn (l:List Sd):∀(ps:List Pt) (M:Nat),(∀x∈ps,x.dn.length≤M)→∀x∈Y9 ps l,x.dn.length≤M+l.length:=by
 induction l with
 |nil=>intro ps M h x hx;have:=h x hx;simp;omega
 |cons d l ih=>
  intro ps M h x hx
  have:=ih (Qhz ps d) (M+1) (by
   intro y hy
   unfold Qhz at hy
   split at hy
   ·rename_i x0 hx0
    rcases List.mem_or_eq_of_mem_set hy with h1|rfl
    ·have:=h y h1;omega
    ·have:=h x0 (List.mem_of_getElem? hx0);simp;omega
   ·have:=h y hy;omega) x hx
  simp;omega
theorem Qdv (i:Nat) (e e':En) (B:Option Addr) (n nc:Nat) (ds:List Sd) (w:World) (h:Msd W w c z L en es xs) (hT:Tab W) (he:en[i]? =some e) (hn:n=ds.length) (hS:Sl w 13 B n (cat Sd.enc ds)) (hA:0<n→∀a,B=some a→a.block∉z.all L)
 (hto:∀d∈ds,0≤d.to∧d.to<c.co∧mg d.m=true) (M:Nat) (hM:∀x∈ports L,x.dn.length≤M) (hMn:M+n≤1000):
 Calls Tryz.prog 125 #[.pointer (some ⟨z.sy,0,none⟩),.int .i64 i,.agg (ec e'),.slice B n nc] w fun r w'=>r=.returned (.tuple #[])∧∃L',MTo W w c z L z L' (en.set i e') es xs w'∧ports L'=Y9 (ports L) ds:=by
 have hi:i<c.li:=by rw [←h.lines];exact (Vg he).1
 have rS:=h.sys
 have rE:=h.ents
 have oS:=old rS
 have oE:=old rE
 have p0:=fun t=>erowHas he t
 have p1:=fun t f=>sq_putRow En.len e' he t f
 have p2:∀t f,JZ (some (.cells (sq En.enc en []) t f)) (i*15) (ec e')=some (.cells (sq En.enc (en.set i e') []) t f):=p1
 have g0:(0:Int)≤(i:Int):=by omega
 have g1:(i:Int)<(c.li:Int):=by omega
 have gn:(n:Int)≤1000:=by omega
 have HH:=Vh h
 have HT:=Vh hT
 have HN:=Vh hn
 have HS:=Vh hS
 have HA:=Vh hA
 have HO:=Vh hto
 have HX:=Vh hM
 have HY:=Vh hMn
 have NE:=Vh (show z.sy≠z.en from h.ne6.1.2.2.2.2)
 have nse:z.sy≠z.en:=NE.out
 have nes:z.en≠z.sy:=Ne.symm nse
 clear h he hi hT hn hS hA hto hM hMn p1
 go_enter Tryz.func125,Tryz.ntmps125
 try dsimp only [List.append]
 go_upto_region 1 with fail
 have r1:(w.alloc (.cells (ec e') 120)).heap[w.heap.size]? =some (.cells (ec e') 120 (0,0)):=by simp
 have C1:=Vh ((Chg.refl [] w).alloc (.cells (ec e') 120))
 have nsb:z.sy≠w.heap.size:=by have:=oS.lt;omega
 have neb:z.en≠w.heap.size:=by have:=oE.lt;omega
 generalize w.heap.size=b1 at r1 nsb neb ⊢
 generalize w.alloc (.cells (ec e') 120)=w2 at r1 C1 ⊢
 replace rS:=C1.out.keep rS Vn
 replace rE:=C1.out.keep rE Vn
 have o1:=old r1
 replace oS:=old rS
 replace oE:=old rE
 go_region
 have q1:(putRow w2.drew z.en (i*15) (ec e')).heap[z.en]? =some (.cells (sq En.enc (en.set i e') []) 120 (0,0)):=by
  rw [Qc _ _ _ _ _ (by rw [Qk,rE,Zh];exact p0 _),if_pos rfl,Qk,rE]
  exact p2 _ _
 have q2:(putRow w2.drew z.en (i*15) (ec e')).heap[z.sy]? =some (.cells (z.enc c).toArray 116 (0,0)):=by
  rw [Qc _ _ _ _ _ (by rw [Qk,rE,Zh];exact p0 _),if_neg nse,Qk,rS]
 have c3:Chg [z.en] w2 (putRow w2.drew z.en (i*15) (ec e')):=((Chg.refl [z.en] w2).drew).putRow _ _ _ (.inl (by simp))
 have M1:=Vh ((HH.out.stay C1.out).trans ((HH.out.keep C1.out).other (ks':=z.ks) (en':=en.set i e') (k:=z.en) (.inr rfl) c3 q2 HH.out.six q1 (by rw [List.length_set];exact HH.out.lines)))
 clear p0 p2 rS rE oS oE o1 r1 q1 q2 c3 nse nes nsb neb C1
 generalize putRow w2.drew z.en (i*15) (ec e')=w3 at M1 ⊢
 go_wp2_with fail
 go_loopw [19] (fun ix wr=>∃(j:Nat) (L':List (Po×Pt)),j≤n∧ix=.int .i64 j∧MTo W w c z L z L' (en.set i e') es xs wr∧ports L'=Y9 (ports L) (ds.take j)) (fun ix _=>n-(intOf ix).toNat)
 case atStart=>exact ⟨0,L,by omega,rfl,M1.out,by simp;rfl⟩
 case round=>
  clear M1
  obtain ⟨j,L',hj,rfl,hm,hp⟩:=hrel
  have MM:=Vh hm
  have HP:=Vh hp
  clear hm hp
  by_cases hlt:j<n
  ·have g2:(j:Int)<(n:Int):=by omega
   have g3:(0:Int)≤(j:Int):=by omega
   obtain ⟨b2,o2,rfl⟩:=HS.out.addr (by omega)
   have hjd:j<ds.length:=by rw [←HN.out];exact hlt
   obtain ⟨d,hy⟩:∃d,ds[j]? =some d:=⟨ds[j]'hjd,List.getElem?_eq_getElem _⟩
   obtain ⟨cs,ts,fs,hb2,i2,p2⟩:=sd_whole HS.out MM.out.2.1 (HA.out (by omega) _ rfl) hlt hy
   have ht:ds.take (j+1)=ds.take j++[d]:=by
    rw [List.take_succ_eq_append_getElem hjd,show ds[j]'hjd=d from (Vg hy).2]
   have hmd:=HO.out d (List.mem_of_getElem? hy)
   have HD:=Vh ht
   clear hy ht
   obtain ⟨tk,m⟩:=d
   obtain ⟨k,rfl⟩:∃k:Nat,tk=k:=⟨tk.toNat,by have h0:0≤tk:=hmd.1;omega⟩
   have hk:k<L'.length:=by rw [MM.out.1.cores];have:=hmd.2.1;exact Int.ofNat_lt.1 this
   obtain ⟨⟨p,x⟩,hLk⟩:∃y,L'[k]? =some y:=⟨L'[k]'hk,List.getElem?_eq_getElem _⟩
   have hdn:x.dn.length+1≤1000:=by
    have h1:=sendP_dn (ds.take j) (ports L) M HX.out x (by rw [←HP.out];exact List.mem_of_getElem? (Qhh hLk))
    rw [List.length_take] at h1
    have:=HY.out
    omega
   have g4:(k:Int)<(c.co:Int):=hmd.2.1
   have g5:(0:Int)≤(k:Int):=by omega
   have rS:=MM.out.1.sys
   have oS:=old rS
   have HLK:=Vh hLk
   have HDN:=Vh hdn
   have HMM:=Vh hmd.2.2
   clear hLk hdn hmd hk hjd
   go_wp2_with fail
   have r4:(wr.alloc (.cells (sc ⟨(k:Int),m⟩) 238)).heap[wr.heap.size]? =some (.cells (sc ⟨(k:Int),m⟩) 238 (0,0)):=by simp
   have C4:=Vh ((Chg.refl [] wr).alloc (.cells (sc ⟨(k:Int),m⟩) 238))
   have NX:=Vh (show wr.heap.size∉z.all L' from fun hm=>by have:=MM.out.1.old _ hm;omega)
   have NSZ:=Vh (show wr.heap.size≤(wr.alloc (.cells (sc ⟨(k:Int),m⟩) 238)).heap.size by simp)
   generalize wr.heap.size=b4 at r4 NX NSZ ⊢
   generalize wr.alloc (.cells (sc ⟨(k:Int),m⟩) 238)=w4 at r4 C4 NSZ ⊢
   replace rS:=C4.out.keep rS Vn
   clear hb2 i2 p2 oS
   have oS:=old rS
   have o4:=old r4
   go_wp2_with fail
   go_region_held3 (fun w'=>w'.heap[b4]? =some (.cells (sc ⟨(k:Int),m⟩) 238 (0,0))∧w'.heap[z.sy]? =some (.cells (z.enc c).toArray 116 (0,0)))
    (first |exact ⟨N.2.1.keep (((Chg.refl [] w4).drew.alloc (.cells (msc m) 196)).keep r4 Vn) NX.out,N.1.sys⟩|exact ⟨((Chg.refl [] w4).drew.alloc _).keep r4 Vn,((Chg.refl [] w4).drew.alloc _).keep rS Vn⟩|exact ⟨r4,rS⟩)
    (first
     |(go_at_call 129;refine ((MM.out.1.keep (C4.out.trans ((Chg.refl [] w4).drew.alloc (.cells (msc m) 196)))).send_dn HT.out HLK.out (some ⟨w4.heap.size,0,none⟩) 1 1 [m] rfl (Told.one w4.drew m).1 (fun a ha hm=>by cases ha;have h1:=MM.out.1.old _ hm;have h2:=NSZ.out;have h3:=C4.out.size;simp at h1;omega) HDN.out (by simpa using HMM.out)).mono ?_;rintro r w' ⟨rfl,p',_,N⟩))
   all_goals
    have HNN:=Vh (MM.out.trans (((MM.out.1.stay (C4.out.trans ((Chg.refl [] w4).drew.alloc (.cells (msc m) 196))))).trans N))
    clear N r4 rS oS o4
    go_wp2_with fail
    go_roundw
    case rel=>
     refine ⟨j+1,_,by omega,by go_num,HNN.out,?_⟩
     rw [X8,HP.out,HD.out]
     rw [sendP_snoc]
     have h1:=Qhh HLK.out
     rw [HP.out] at h1
     rw [sendTo_some h1]
    case measure=>simp [intOf];omega
  ·obtain rfl:j=n:=by omega
   go_wp2_with fail
   go_end0
   refine ⟨rfl,L',MM.out,?_⟩
   have:=HP.out
   rw [HN.out,List.take_length] at this
   exact this
end
end
end Go.Proofs.YtcgjofbkcgedfaaGreatDoor
