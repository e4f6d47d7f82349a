/- Texts of the walk, one behind the other: Agd Age Agf Mes Met Meu Mev. No condition. -/
import Derived.Test.YtlidfghgjjffaaaGreatDoorMQaa
import Derived.Test.YtlidfghgjjffaaaGreatDoorMQac
import Derived.Test.YtlidfghgjjffaaaGreatDoorMQad
import Derived.Test.YtlidfghgjjffaaaGreatDoorMQae
import Derived.BigQuiet
import Derived.Deep.Cut
import Derived.Deep.CutBlock
import Derived.Deep.CutRange
import Derived.Deep.DeepCutAuto
import Derived.Deep.QuietTactic
import Derived.Deep.RegionHeld3
import Derived.Deep.RegionWith
namespace Go.Proofs.YtlidfghgjjffaaaGreatDoor
open Go.RowKit
set_option linter.unusedVariables false
set_option maxHeartbeats 1000000
attribute [local go_sem ↓] Qv QF Qx QP QG Qs Zg Q7 ZH Zt Qk Qh heap_alloc Ql heap_setCell Qc XG XP XO Zi ZP Zu Xk ZQ Xq Xp Xy Xx
attribute [local go_sem] Qb Qa Qe Qi Qd Qg Qf Qt Zk Zf ZE QB Qw QN QL QM Q6 QJ QA Qr QD QX QI Qq QC Qp Qj Qo Qn Qm Zj Zv lit8 QV Xc ZG ZL ZV Zn ZM Xj ZN QH ZO Zx Zy QZ QY Zb XB Qg6 Qg5
attribute [local simp ↓] Qk Qh heap_alloc Ql heap_setCell Qc
attribute [local simp] Qb Qa Qe Qi Qd Qg Qf Qt Qr Qj Qo Qn Qm QV QH QZ QY Zb QD Qg6 Qg5
section
theorem gget_any {W:World} {g a b S N:Nat} {s:Sta} (li st kd:Int) (w:World) (h:Agt W w g a b S N s) (hu:s.2≤1000000000):Calls Tryz.prog 242 #[.pointer (some ⟨g,0,none⟩),.int .i64 li,.int .i64 st,.int .i64 kd] w (AgRet W w g a b S N (getF S N s li st kd).1 (fun v=>v) (getF S N s li st kd).2):=by
 have H:=Vh h
 have rG:=h.2.1
 have CW:=Vh (Chg.refl [a,b] w)
 clear h
 have hf:=groom_any H.out li
 cases hr:Jx S N s.1 li
 ·rw [show getF S N s li st kd=outF S N s (Qau S N s.1 li) by unfold getF;rw [if_neg (by simp [hr])]]
  rw [hr] at hf
  generalize Qau S N s.1 li=v at hf
  go_enter Tryz.func242,Tryz.ntmps242
  try dsimp only [List.append]
  go_wp2_with fail
  refine hf.mono ?_
  clear hf
  rintro e w2 ⟨rfl,c2⟩
  replace H:=Vh (H.out.keep c2)
  replace CW:=Vh (CW.out.trans (YS c2))
  clear c2
  have rG:=H.out.2.1
  go_wp2_with fail
  refine (gout_any v w2 H.out hu).mono ?_
  rintro e w3 ⟨A,n,rfl,h1,h2,h3⟩
  go_wp2_with fail
  go_ret
  exact ⟨A,n,rfl,h1.from CW.out.size,h2,CW.out.trans h3⟩
 ·rw [show getF S N s li st kd=(setS S N s li st zl8 rfl,[ms4 kd li false false]) by unfold getF;rw [if_pos hr]]
  rw [hr] at hf
  generalize Qau S N s.1 li=v at hf
  go_enter Tryz.func242,Tryz.ntmps242
  try dsimp only [List.append]
  go_wp2_with fail
  refine hf.mono ?_
  clear hf
  rintro e w2 ⟨rfl,c2⟩
  replace H:=Vh (H.out.keep c2)
  replace CW:=Vh (CW.out.trans (YS c2))
  clear c2
  have rG:=H.out.2.1
  go_wp2_with fail
  refine (gsetz_any H.out hu li st).mono ?_
  rintro e w4 ⟨rfl,h4,c4⟩
  go_wp2_with fail
  go_ret
  exact AgRet.one (f:=fun v=>v) h4 (CW.out.trans c4) _
theorem gload_any {W:World} {g a b S N:Nat} {s:Sta} (li k:Int) (w:World) (h:Agt W w g a b S N s) (hu:s.2≤1000000000):Calls Tryz.prog 224 #[.pointer (some ⟨g,0,none⟩),.int .i64 li,.int .i64 k] w (AgRet W w g a b S N (loadF S N s li k).1 (fun v=>.tuple #[.int .u64 (loadF S N s li k).2.1,.bool (loadF S N s li k).2.2.1,v]) (loadF S N s li k).2.2.2):=by
 have H:=Vh h
 have rG:=h.2.1
 have CW:=Vh (Chg.refl [a,b] w)
 clear h
 have hf:=JK H.out li
 cases t1:isLn li
 ·rw [show loadF S N s li k=(s,(0,false,[])) by unfold loadF;rw [if_neg (by simp [t1])]]
  go_enter Tryz.func224,Tryz.ntmps224
  try dsimp only [List.append]
  go_wp2_with (first |(go_at_call 228;refine (Jz _ _ t1 _).mono ?_;rintro e w' ⟨rfl,rfl⟩)|(go_at_call 229;refine (Qbq _ _ t2 _).mono ?_;rintro e w' ⟨rfl,rfl⟩))
  go_ret3
  exact AgRet.nil (f:=fun v=>.tuple #[.int .u64 0,.bool false,v]) H.out CW.out
 cases t2:isWd k
 ·rw [show loadF S N s li k=(s,(0,false,[])) by unfold loadF;rw [if_neg (by simp [t2])]]
  go_enter Tryz.func224,Tryz.ntmps224
  try dsimp only [List.append]
  go_wp2_with (first |(go_at_call 228;refine (Jz _ _ t1 _).mono ?_;rintro e w' ⟨rfl,rfl⟩)|(go_at_call 229;refine (Qbq _ _ t2 _).mono ?_;rintro e w' ⟨rfl,rfl⟩))
  go_ret3
  exact AgRet.nil (f:=fun v=>.tuple #[.int .u64 0,.bool false,v]) H.out CW.out
 obtain ⟨K,hK,rfl⟩:∃K:Nat,K<8∧k=K:=by simp [isWd] at t2;exact ⟨k.toNat,by omega,by omega⟩
 cases hm:mayR (Qy s.1 li).st
 ·cases hi:Qgh s.1
  ·rw [show loadF S N s li K=(s,(0,false,[])) by unfold loadF;rw [if_pos (by simp [t1,t2]),if_neg (by simp [hm]),if_neg (by simp [hi])]]
   generalize Qy s.1 li=x at hf hm
   go_enter Tryz.func224,Tryz.ntmps224
   try dsimp only [List.append]
   go_wp2_with (first |(go_at_call 228;refine (Jz _ _ t1 _).mono ?_;rintro e w' ⟨rfl,rfl⟩)|(go_at_call 229;refine (Qbq _ _ t2 _).mono ?_;rintro e w' ⟨rfl,rfl⟩))
   refine hf.mono ?_
   clear hf
   rintro e w2 ⟨rfl,c2⟩
   replace H:=Vh (H.out.keep c2)
   replace CW:=Vh (CW.out.trans (YS c2))
   clear c2
   have rG:=H.out.2.1
   go_wp2_with fail
   have cb:=(Chg.refl [] w2).alloc (.cells (slc x) 147 (0,0))
   have rX:(w2.alloc (.cells (slc x) 147 (0,0))).heap[w2.heap.size]? =some (.cells (slc x) 147 (0,0)):=by simp
   have nX:=H.out.new2 (k:=w2.heap.size) (Nat.le_refl _)
   have mX:=H.out.new3 (k:=w2.heap.size) (Nat.le_refl _)
   have vX:=H.out.1.1.size
   have uXx:=CW.out.size
   replace H:=Vh (H.out.keep cb)
   replace CW:=Vh (CW.out.trans (YS cb))
   clear cb
   generalize w2.heap.size=pX at rX nX mX vX uXx ⊢
   generalize w2.alloc (.cells (slc x) 147 (0,0))=w3 at rX H CW ⊢
   have rG:=H.out.2.1
   have oX:=old rX
   refine (gread_at _ _ hm _).mono ?_
   rintro e w' ⟨rfl,rfl⟩
   go_wp2_with fail
   refine (Qcb _ hi w3 H.out).mono ?_
   rintro e w4 ⟨rfl,c4⟩
   go_wp2_with fail
   go_ret3
   exact AgRet.nil (f:=fun v=>.tuple #[.int .u64 0,.bool false,v]) (H.out.keep c4) (CW.out.trans (YS c4))
  ·rw [show loadF S N s li K=((getF S N s li 4 1).1,(0,false,(getF S N s li 4 1).2)) by unfold loadF;rw [if_pos (by simp [t1,t2]),if_neg (by simp [hm]),if_pos hi]]
   generalize Qy s.1 li=x at hf hm
   go_enter Tryz.func224,Tryz.ntmps224
   try dsimp only [List.append]
   go_wp2_with (first |(go_at_call 228;refine (Jz _ _ t1 _).mono ?_;rintro e w' ⟨rfl,rfl⟩)|(go_at_call 229;refine (Qbq _ _ t2 _).mono ?_;rintro e w' ⟨rfl,rfl⟩))
   refine hf.mono ?_
   clear hf
   rintro e w2 ⟨rfl,c2⟩
   replace H:=Vh (H.out.keep c2)
   replace CW:=Vh (CW.out.trans (YS c2))
   clear c2
   have rG:=H.out.2.1
   go_wp2_with fail
   have cb:=(Chg.refl [] w2).alloc (.cells (slc x) 147 (0,0))
   have rX:(w2.alloc (.cells (slc x) 147 (0,0))).heap[w2.heap.size]? =some (.cells (slc x) 147 (0,0)):=by simp
   have nX:=H.out.new2 (k:=w2.heap.size) (Nat.le_refl _)
   have mX:=H.out.new3 (k:=w2.heap.size) (Nat.le_refl _)
   have vX:=H.out.1.1.size
   have uXx:=CW.out.size
   replace H:=Vh (H.out.keep cb)
   replace CW:=Vh (CW.out.trans (YS cb))
   clear cb
   generalize w2.heap.size=pX at rX nX mX vX uXx ⊢
   generalize w2.alloc (.cells (slc x) 147 (0,0))=w3 at rX H CW ⊢
   have rG:=H.out.2.1
   have oX:=old rX
   refine (gread_at _ _ hm _).mono ?_
   rintro e w' ⟨rfl,rfl⟩
   go_wp2_with fail
   refine (Qcb _ hi w3 H.out).mono ?_
   rintro e w4 ⟨rfl,c4⟩
   replace H:=Vh (H.out.keep c4)
   replace CW:=Vh (CW.out.trans (YS c4))
   clear c4
   have rG:=H.out.2.1
   go_wp2_with fail
   refine (gget_any li 4 1 w4 H.out hu).mono ?_
   rintro e w5 ⟨A,n,rfl,h1,h2,h3⟩
   go_wp2_with fail
   go_ret3
   exact ⟨A,n,rfl,h1.from CW.out.size,h2,CW.out.trans h3⟩
 ·rw [show loadF S N s li K=(Qer s li,((Qy s.1 li).l.getD K 0,true,[])) by unfold loadF;rw [if_pos (by simp [t1,t2]),if_pos hm,Int.toNat_natCast]]
  generalize Qy s.1 li=x at hf hm
  have hwd:=slc_word x K hK
  have g1:(K:Int)<8:=by omega
  have g0:(0:Int)≤(K:Int):=by omega
  go_enter Tryz.func224,Tryz.ntmps224
  try dsimp only [List.append]
  go_wp2_with (first |(go_at_call 228;refine (Jz _ _ t1 _).mono ?_;rintro e w' ⟨rfl,rfl⟩)|(go_at_call 229;refine (Qbq _ _ t2 _).mono ?_;rintro e w' ⟨rfl,rfl⟩))
  refine hf.mono ?_
  clear hf
  rintro e w2 ⟨rfl,c2⟩
  replace H:=Vh (H.out.keep c2)
  replace CW:=Vh (CW.out.trans (YS c2))
  clear c2
  have rG:=H.out.2.1
  go_wp2_with fail
  have cb:=(Chg.refl [] w2).alloc (.cells (slc x) 147 (0,0))
  have rX:(w2.alloc (.cells (slc x) 147 (0,0))).heap[w2.heap.size]? =some (.cells (slc x) 147 (0,0)):=by simp
  have nX:=H.out.new2 (k:=w2.heap.size) (Nat.le_refl _)
  have mX:=H.out.new3 (k:=w2.heap.size) (Nat.le_refl _)
  have vX:=H.out.1.1.size
  have uXx:=CW.out.size
  replace H:=Vh (H.out.keep cb)
  replace CW:=Vh (CW.out.trans (YS cb))
  clear cb
  generalize w2.heap.size=pX at rX nX mX vX uXx ⊢
  generalize w2.alloc (.cells (slc x) 147 (0,0))=w3 at rX H CW ⊢
  have rG:=H.out.2.1
  have oX:=old rX
  refine (gread_at _ _ hm _).mono ?_
  rintro e w' ⟨rfl,rfl⟩
  go_wp2_with fail
  refine (gtouch_any H.out hu li).mono ?_
  rintro e w4 ⟨rfl,h4,c4⟩
  replace rX:=c4.keep rX nX
  go_wp2_with fail
  go_ret3
  exact AgRet.nil (f:=fun v=>.tuple #[.int .u64 (x.l.getD K 0),.bool true,v]) h4 (CW.out.trans c4)
theorem greach_any {W:World} {g a b S N:Nat} {s:Sta} (li:Int) (w:World) (h:Agt W w g a b S N s) (hu:s.2≤1000000000):Calls Tryz.prog 227 #[.pointer (some ⟨g,0,none⟩),.int .i64 li] w (AgRet W w g a b S N (reachF S N s li).1 (fun v=>v) (reachF S N s li).2):=by
 have H:=Vh h
 have rG:=h.2.1
 have CW:=Vh (Chg.refl [a,b] w)
 clear h
 have hf:=JK H.out li
 cases t1:isLn li
 ·rw [show reachF S N s li=(s,[]) by unfold reachF;rw [if_neg (by simp [t1])]]
  go_enter Tryz.func227,Tryz.ntmps227
  try dsimp only [List.append]
  go_wp2_with (go_at_call 228;refine (Jz _ _ t1 _).mono ?_;rintro e w' ⟨rfl,rfl⟩)
  go_ret
  exact AgRet.nil (f:=fun v=>v) H.out CW.out
 cases ho:Qeo s.1 li
 rotate_left
 ·rw [show reachF S N s li=(s,[]) by unfold reachF;rw [if_neg (by simp [ho])]]
  go_enter Tryz.func227,Tryz.ntmps227
  try dsimp only [List.append]
  go_wp2_with (go_at_call 228;refine (Jz _ _ t1 _).mono ?_;rintro e w' ⟨rfl,rfl⟩)
  refine (Qee li _ ho w H.out).mono ?_
  rintro e w3 ⟨rfl,c3⟩
  go_wp2_with fail
  go_ret
  exact AgRet.nil (f:=fun v=>v) (H.out.keep c3) (YS c3)
 cases hi:Qgh s.1
 ·rw [show reachF S N s li=(s,[]) by unfold reachF;rw [if_neg (by simp [hi])]]
  go_enter Tryz.func227,Tryz.ntmps227
  try dsimp only [List.append]
  go_wp2_with (go_at_call 228;refine (Jz _ _ t1 _).mono ?_;rintro e w' ⟨rfl,rfl⟩)
  refine (Qee li _ ho w H.out).mono ?_
  rintro e w3 ⟨rfl,c3⟩
  go_wp2_with fail
  refine (Qcb _ hi w3 (H.out.keep c3)).mono ?_
  rintro e w4 ⟨rfl,c4⟩
  go_wp2_with fail
  go_ret
  exact AgRet.nil (f:=fun v=>v) ((H.out.keep c3).keep c4) (YS (c3.trans c4))
 have hgo:(isLn li&&!Qeo s.1 li&&Qgh s.1)=true:=by simp [t1,ho,hi]
 cases hd:XM s.1 li
 ·rw [show reachF S N s li=getF S N s li 5 2 by unfold reachF;rw [if_pos hgo,if_neg (by simp [hd])]]
  clear hgo
  generalize Qy s.1 li=x at hf
  rw [hd] at hf
  go_enter Tryz.func227,Tryz.ntmps227
  try dsimp only [List.append]
  go_wp2_with (go_at_call 228;refine (Jz _ _ t1 _).mono ?_;rintro e w' ⟨rfl,rfl⟩)
  refine (Qee li _ ho w H.out).mono ?_
  rintro e w3 ⟨rfl,c3⟩
  go_wp2_with fail
  refine (Qcb _ hi w3 (H.out.keep c3)).mono ?_
  rintro e w4 ⟨rfl,c4⟩
  replace hf:=JK ((H.out.keep c3).keep c4) li
  rw [hd] at hf
  replace H:=Vh (H.out.keep c3)
  replace CW:=Vh (CW.out.trans (YS c3))
  clear c3
  have rG:=H.out.2.1
  replace H:=Vh (H.out.keep c4)
  replace CW:=Vh (CW.out.trans (YS c4))
  clear c4
  have rG:=H.out.2.1
  go_wp2_with fail
  refine hf.mono ?_
  clear hf
  rintro e w2 ⟨rfl,c2⟩
  generalize Qy s.1 li=x
  replace H:=Vh (H.out.keep c2)
  replace CW:=Vh (CW.out.trans (YS c2))
  clear c2
  have rG:=H.out.2.1
  go_wp2_with fail
  have cb:=(Chg.refl [] w2).alloc (.cells (slc x) 147 (0,0))
  have rX:(w2.alloc (.cells (slc x) 147 (0,0))).heap[w2.heap.size]? =some (.cells (slc x) 147 (0,0)):=by simp
  have nX:=H.out.new2 (k:=w2.heap.size) (Nat.le_refl _)
  have mX:=H.out.new3 (k:=w2.heap.size) (Nat.le_refl _)
  have vX:=H.out.1.1.size
  have uXx:=CW.out.size
  replace H:=Vh (H.out.keep cb)
  replace CW:=Vh (CW.out.trans (YS cb))
  clear cb
  generalize w2.heap.size=pX at rX nX mX vX uXx ⊢
  generalize w2.alloc (.cells (slc x) 147 (0,0))=w5 at rX H CW ⊢
  have rG:=H.out.2.1
  have oX:=old rX
  refine (gget_any li 5 2 w5 H.out hu).mono ?_
  rintro e w6 ⟨A,n,rfl,h1,h2,h3⟩
  go_wp2_with fail
  go_ret
  exact ⟨A,n,rfl,h1.from CW.out.size,h2,CW.out.trans h3⟩
 ·rw [show reachF S N s li=(setS S N s li 6 (Qy s.1 li).l (Qy s.1 li).h,[ms4 2 li false false]) by unfold reachF;rw [if_pos hgo,if_pos hd]]
  clear hgo
  replace hf:=fun W' hW=>JK (w:=W') (s:=s) (W:=W) (g:=g) (a:=a) (b:=b) (S:=S) (N:=N) hW li
  simp only [hd] at hf
  generalize Qy s.1 li=x at hf
  go_enter Tryz.func227,Tryz.ntmps227
  try dsimp only [List.append]
  go_wp2_with (go_at_call 228;refine (Jz _ _ t1 _).mono ?_;rintro e w' ⟨rfl,rfl⟩)
  refine (Qee li _ ho w H.out).mono ?_
  rintro e w3 ⟨rfl,c3⟩
  go_wp2_with fail
  refine (Qcb _ hi w3 (H.out.keep c3)).mono ?_
  rintro e w4 ⟨rfl,c4⟩
  replace H:=Vh (H.out.keep c3)
  replace CW:=Vh (CW.out.trans (YS c3))
  clear c3
  have rG:=H.out.2.1
  replace H:=Vh (H.out.keep c4)
  replace CW:=Vh (CW.out.trans (YS c4))
  clear c4
  have rG:=H.out.2.1
  go_wp2_with fail
  refine (hf w4 H.out).mono ?_
  clear hf
  rintro e w2 ⟨rfl,c2⟩
  replace H:=Vh (H.out.keep c2)
  replace CW:=Vh (CW.out.trans (YS c2))
  clear c2
  have rG:=H.out.2.1
  go_wp2_with fail
  have cb:=(Chg.refl [] w2).alloc (.cells (slc x) 147 (0,0))
  have rX:(w2.alloc (.cells (slc x) 147 (0,0))).heap[w2.heap.size]? =some (.cells (slc x) 147 (0,0)):=by simp
  have nX:=H.out.new2 (k:=w2.heap.size) (Nat.le_refl _)
  have mX:=H.out.new3 (k:=w2.heap.size) (Nat.le_refl _)
  have vX:=H.out.1.1.size
  have uXx:=CW.out.size
  replace H:=Vh (H.out.keep cb)
  replace CW:=Vh (CW.out.trans (YS cb))
  clear cb
  generalize w2.heap.size=pX at rX nX mX vX uXx ⊢
  generalize w2.alloc (.cells (slc x) 147 (0,0))=w5 at rX H CW ⊢
  have rG:=H.out.2.1
  have oX:=old rX
  go_wp2_with fail
  have nG:=H.out.2.2.2.1
  go_region_held3 (fun w'=>w'.heap[g]? =some (.cells #[.pointer (some ⟨a,0,none⟩)] 200 (0,0))∧w'.heap[pX]? =some (.cells (slc x) 147 (0,0))) (first |exact ⟨rG,rX⟩|exact ⟨c4.keep rG nG,c4.keep rX nX⟩)
   (first
    |(go_at_call 165;refine (Qfp (H.out.keep (Chg.drew (Chg.refl [] w5))) hu li 6 x.l x.h).mono ?_;rintro e w4 ⟨rfl,h4,c4⟩))
  all_goals
   replace H:=Vh h4
   replace CW:=Vh (CW.out.trans (Chg.trans (Chg.drew (Chg.refl [a,b] w5)) c4))
   replace rX:=c4.keep rX nX
   clear h4 c4 rG
   have rG:=H.out.2.1
   go_wp2_with fail
   go_ret
   exact AgRet.one (f:=fun v=>v) H.out CW.out _
theorem gstore_any {W:World} {g a b S N:Nat} {s:Sta} (li k v0:Int) (w:World) (h:Agt W w g a b S N s) (hu:s.2≤1000000000):Calls Tryz.prog 197 #[.pointer (some ⟨g,0,none⟩),.int .i64 li,.int .i64 k,.int .u64 v0] w (AgRet W w g a b S N (storeF S N s li k v0).1 (fun v=>.tuple #[.bool (storeF S N s li k v0).2.1,v]) (storeF S N s li k v0).2.2):=by
 have H:=Vh h
 have rG:=h.2.1
 have CW:=Vh (Chg.refl [a,b] w)
 clear h
 have hf:=JK H.out li
 cases t1:isLn li
 ·rw [show storeF S N s li k v0=(s,(false,[])) by unfold storeF;rw [if_neg (by simp [t1])]]
  go_enter Tryz.func197,Tryz.ntmps197
  try dsimp only [List.append]
  go_wp2_with (first |(go_at_call 228;refine (Jz _ _ t1 _).mono ?_;rintro e w' ⟨rfl,rfl⟩)|(go_at_call 229;refine (Qbq _ _ t2 _).mono ?_;rintro e w' ⟨rfl,rfl⟩))
  go_ret2
  exact AgRet.nil (f:=fun v=>.tuple #[.bool false,v]) H.out CW.out
 cases t2:isWd k
 ·rw [show storeF S N s li k v0=(s,(false,[])) by unfold storeF;rw [if_neg (by simp [t2])]]
  go_enter Tryz.func197,Tryz.ntmps197
  try dsimp only [List.append]
  go_wp2_with (first |(go_at_call 228;refine (Jz _ _ t1 _).mono ?_;rintro e w' ⟨rfl,rfl⟩)|(go_at_call 229;refine (Qbq _ _ t2 _).mono ?_;rintro e w' ⟨rfl,rfl⟩))
  go_ret2
  exact AgRet.nil (f:=fun v=>.tuple #[.bool false,v]) H.out CW.out
 obtain ⟨K,hK,rfl⟩:∃K:Nat,K<8∧k=K:=by simp [isWd] at t2;exact ⟨k.toNat,by omega,by omega⟩
 cases hm:mayWr (Qy s.1 li).st
 ·rw [show storeF S N s li K v0=((reachF S N s li).1,(false,(reachF S N s li).2)) by unfold storeF Qeo;rw [if_pos (by simp [t1,t2]),if_neg (by simp [hm])]]
  generalize Qy s.1 li=x at hf hm
  go_enter Tryz.func197,Tryz.ntmps197
  try dsimp only [List.append]
  go_wp2_with (first |(go_at_call 228;refine (Jz _ _ t1 _).mono ?_;rintro e w' ⟨rfl,rfl⟩)|(go_at_call 229;refine (Qbq _ _ t2 _).mono ?_;rintro e w' ⟨rfl,rfl⟩))
  refine hf.mono ?_
  clear hf
  rintro e w2 ⟨rfl,c2⟩
  replace H:=Vh (H.out.keep c2)
  replace CW:=Vh (CW.out.trans (YS c2))
  clear c2
  have rG:=H.out.2.1
  go_wp2_with fail
  have cb:=(Chg.refl [] w2).alloc (.cells (slc x) 147 (0,0))
  have rX:(w2.alloc (.cells (slc x) 147 (0,0))).heap[w2.heap.size]? =some (.cells (slc x) 147 (0,0)):=by simp
  have nX:=H.out.new2 (k:=w2.heap.size) (Nat.le_refl _)
  have mX:=H.out.new3 (k:=w2.heap.size) (Nat.le_refl _)
  have vX:=H.out.1.1.size
  have uXx:=CW.out.size
  replace H:=Vh (H.out.keep cb)
  replace CW:=Vh (CW.out.trans (YS cb))
  clear cb
  generalize w2.heap.size=pX at rX nX mX vX uXx ⊢
  generalize w2.alloc (.cells (slc x) 147 (0,0))=w3 at rX H CW ⊢
  have rG:=H.out.2.1
  have oX:=old rX
  refine (gwrite_at _ _ hm _).mono ?_
  rintro e w' ⟨rfl,rfl⟩
  go_wp2_with fail
  refine (greach_any li w3 H.out hu).mono ?_
  rintro e w5 ⟨A,n,rfl,h1,h2,h3⟩
  go_wp2_with fail
  go_ret2
  exact ⟨A,n,rfl,h1.from CW.out.size,h2,CW.out.trans h3⟩
 ·have e1:storeF S N s li K v0=(setS S N s li 3 ((Qy s.1 li).l.set K v0) (by rw [List.length_set];exact (Qy s.1 li).h),(true,[])):=by
   unfold storeF Qeo;rw [if_pos (by simp [t1,t2]),if_pos hm];rfl
  rw [e1]
  clear e1
  generalize Qy s.1 li=x at hf hm
  have hx8:=x.h
  have hsw:=slc_setWord x K v0 hK
  have hwd:=slc_word x K hK
  have g1:(K:Int)<8:=by omega
  have g0:(0:Int)≤(K:Int):=by omega
  have hl8:(x.l.set K v0).length=8:=by rw [List.length_set];exact x.h
  go_enter Tryz.func197,Tryz.ntmps197
  try dsimp only [List.append]
  go_wp2_with (first |(go_at_call 228;refine (Jz _ _ t1 _).mono ?_;rintro e w' ⟨rfl,rfl⟩)|(go_at_call 229;refine (Qbq _ _ t2 _).mono ?_;rintro e w' ⟨rfl,rfl⟩))
  refine hf.mono ?_
  clear hf
  rintro e w2 ⟨rfl,c2⟩
  replace H:=Vh (H.out.keep c2)
  replace CW:=Vh (CW.out.trans (YS c2))
  clear c2
  have rG:=H.out.2.1
  go_wp2_with fail
  have cb:=(Chg.refl [] w2).alloc (.cells (slc x) 147 (0,0))
  have rX:(w2.alloc (.cells (slc x) 147 (0,0))).heap[w2.heap.size]? =some (.cells (slc x) 147 (0,0)):=by simp
  have nX:=H.out.new2 (k:=w2.heap.size) (Nat.le_refl _)
  have mX:=H.out.new3 (k:=w2.heap.size) (Nat.le_refl _)
  have vX:=H.out.1.1.size
  have uXx:=CW.out.size
  replace H:=Vh (H.out.keep cb)
  replace CW:=Vh (CW.out.trans (YS cb))
  clear cb
  generalize w2.heap.size=pX at rX nX mX vX uXx ⊢
  generalize w2.alloc (.cells (slc x) 147 (0,0))=w3 at rX H CW ⊢
  have rG:=H.out.2.1
  have oX:=old rX
  refine (gwrite_at _ _ hm _).mono ?_
  rintro e w' ⟨rfl,rfl⟩
  go_wp2_with fail
  have cb:Chg [pX] w3 (w3.setCell ⟨pX,2+K,none⟩ (.int .u64 v0)):=(Chg.refl [pX] w3).setCell _ _ _ (.inl (by simp))
  have rX2:(w3.setCell ⟨pX,2+K,none⟩ (.int .u64 v0)).heap[pX]? =some (.cells (slc (x.putL (x.l.set K v0) hl8)) 147 (0,0)):=by simp [rX,hsw]
  replace CW:=Vh (CW.out.trans' cb (by simp [uXx]))
  replace H:=Vh (H.out.apart cb mX vX)
  clear cb rX rG hsw hwd
  have rX:=rX2
  clear rX2
  generalize w3.setCell ⟨pX,2+K,none⟩ (.int .u64 v0)=w5 at rX H CW ⊢
  have rG:=H.out.2.1
  have oX:=old rX
  have nG:=H.out.2.2.2.1
  go_region_held3 (fun w'=>w'.heap[g]? =some (.cells #[.pointer (some ⟨a,0,none⟩)] 200 (0,0))∧w'.heap[pX]? =some (.cells (slc (x.putL (x.l.set K v0) hl8)) 147 (0,0))) (first |exact ⟨rG,rX⟩|exact ⟨c4.keep rG nG,c4.keep rX nX⟩)
   (first
    |(go_at_call 165;refine (Qfp (H.out.keep (Chg.drew (Chg.refl [] w5))) hu li 3 (x.l.set K v0) hl8).mono ?_;rintro e w4 ⟨rfl,h4,c4⟩))
  all_goals
   replace H:=Vh h4
   replace CW:=Vh (CW.out.trans (Chg.trans (Chg.drew (Chg.refl [a,b] w5)) c4))
   replace rX:=c4.keep rX nX
   clear h4 c4 rG
   have rG:=H.out.2.1
   go_wp2_with fail
   go_ret2
   exact AgRet.nil (f:=fun v=>.tuple #[.bool true,v]) H.out CW.out
end
section
def tbL:List Value:=((List.range 15).map fun k:Nat=>(List.range 10).map fun j:Nat=>Value.int .i64 (tb k j)).flatten
def TabB (w:World):Prop:=∃t f,w.heap[0]? =some (.cells tbL.toArray t f)
theorem TabB.keep {w w':World} {l:List Nat} (h:TabB w) (hc:Chg l w w') (h0:0∉l):TabB w':=by
 obtain ⟨t,f,h⟩:=h
 exact ⟨t,f,hc.keep h h0⟩
theorem tb_cell (k j:Nat) (hk:k<15) (hj:j<10):tbL.toArray[k*10+j]? =some (.int .i64 (tb k j)):=by
 have h:∀k:Nat,k<15→∀j:Nat,j<10→tbL[k*10+j]? =some (.int .i64 (tb k j)):=by
  intro k hk j hj
  have h1:k=0∨k=1∨k=2∨k=3∨k=4∨k=5∨k=6∨k=7∨k=8∨k=9∨k=10∨k=11∨k=12∨k=13∨k=14:=by omega
  have h2:j=0∨j=1∨j=2∨j=3∨j=4∨j=5∨j=6∨j=7∨j=8∨j=9:=by omega
  rcases h1 with rfl|rfl|rfl|rfl|rfl|rfl|rfl|rfl|rfl|rfl|rfl|rfl|rfl|rfl|rfl<;>rcases h2 with rfl|rfl|rfl|rfl|rfl|rfl|rfl|rfl|rfl|rfl<;>rfl
 rw [List.getElem?_toArray]
 exact h k hk j hj
def Tabs (W:World):Prop:=Tab W∧TabB W
theorem Qcw (m:Ms) (b:Bool) (h:mg m=b) (w:World) (ht:Tab w):Calls Tryz.prog 151 #[.agg (msc m)] w fun e w'=>e=.returned (.bool b)∧Chg [] w w':=h▸Qif m w ht
theorem Qcv (k:Int) (b:Bool) (h:Y5 k=b) (w:World):Calls Tryz.prog 162 #[.int .i64 k] w fun e w'=>e=.returned (.bool b)∧w=w':=h▸tells_any k w
theorem gevict_any {W:World} {g a b S N:Nat} {s:Sta} (li:Int) (w:World) (h:Agt W w g a b S N s) (hu:s.2≤1000000000):Calls Tryz.prog 123 #[.pointer (some ⟨g,0,none⟩),.int .i64 li] w (AgRet W w g a b S N (evictF S N s li).1 (fun v=>.tuple #[v,.int .i64 (evictF S N s li).2.2]) (evictF S N s li).2.1):=by
 have H:=Vh h
 have rG:=h.2.1
 have CW:=Vh (Chg.refl [a,b] w)
 clear h
 cases hi:Qgh s.1
 ·rw [show evictF S N s li=(s,([],15)) by unfold evictF;rw [if_neg (by simp [hi])]]
  go_enter Tryz.func123,Tryz.ntmps123
  try dsimp only [List.append]
  go_wp2_with fail
  refine (Qcb _ hi w H.out).mono ?_
  rintro e w2 ⟨rfl,c2⟩
  go_wp2_with fail
  go_ret2
  exact AgRet.nil (f:=fun v=>.tuple #[v,.int .i64 15]) (H.out.keep c2) (YS c2)
 ·have ho:=fun w' h=>gout_any (W:=W) (g:=g) (a:=a) (b:=b) (S:=S) (N:=N) (s:=s) li w' h hu
  cases hr:YO (Qy s.1 li).st
  ·rw [show evictF S N s li=(s,([],14)) by unfold evictF;rw [if_pos hi,out_no hr];rfl]
   rw [out_no hr] at ho
   go_enter Tryz.func123,Tryz.ntmps123
   try dsimp only [List.append]
   go_wp2_with fail
   refine (Qcb _ hi w H.out).mono ?_
   rintro e w2 ⟨rfl,c2⟩
   replace H:=Vh (H.out.keep c2)
   replace CW:=Vh (CW.out.trans (YS c2))
   clear c2
   have rG:=H.out.2.1
   go_wp2_with fail
   refine (ho w2 H.out).mono ?_
   rintro e w3 ⟨A,n,rfl,h1,h2,h3⟩
   go_wp2_with fail
   go_ret2
   exact AgRet.nil (f:=fun v=>.tuple #[v,.int .i64 14]) h2 (CW.out.trans h3)
  ·rw [show evictF S N s li=((outF S N s li).1,((outF S N s li).2,0)) by unfold evictF;rw [if_pos hi,out_yes hr];rfl]
   rw [out_yes hr] at ho ⊢
   generalize JT 3 (Qy s.1 li) false=m0 at ho
   generalize setS S N s li (Qg4 (Qy s.1 li).st) (Qy s.1 li).l (Qy s.1 li).h=s1 at ho
   go_enter Tryz.func123,Tryz.ntmps123
   try dsimp only [List.append]
   go_wp2_with fail
   refine (Qcb _ hi w H.out).mono ?_
   rintro e w2 ⟨rfl,c2⟩
   replace H:=Vh (H.out.keep c2)
   replace CW:=Vh (CW.out.trans (YS c2))
   clear c2
   have rG:=H.out.2.1
   go_wp2_with fail
   refine (ho w2 H.out).mono ?_
   rintro e w3 ⟨A,n,rfl,h1,h2,h3⟩
   go_wp2_with fail
   go_ret2
   exact ⟨A,n,rfl,h1.from CW.out.size,h2,CW.out.trans h3⟩
theorem snew_at (w:World) (o:Obj):(w.alloc o).heap[w.heap.size]? =some o:=by simp
theorem Qhe {w:World} {r:Nat} {x y:Slt} {t:TypeId} (h:w.heap[r]? =some (.cells (slc y) t (0,0))):(putRow w r 0 (slc x)).heap[r]? =some (.cells (slc x) t (0,0)):=by
 simp [h,QV]
theorem AgRet.ms {W w w1 w2:World} {g a b S N:Nat} {s:Sta} {f:Value→Value} {A:Option Addr} {ms:List Ms} {n:Nat} (h:Agt W w1 g a b S N s) (hc:Chg [a,b] w w1) (h1:Told w1 w2 A ms) (c:Chg [] w1 w2):AgRet W w g a b S N s f ms (.returned (f (.slice A ms.length n))) w2:=
 ⟨A,n,rfl,h1.from hc.size,h.keep c,hc.trans (YS c)⟩
theorem ghear_args {W:World} {g a b S N:Nat} {s:Sta} (m:Ms) (gg:(mg m&&Y5 m.kd)=false) (w:World) (h:Agt W w g a b S N s) (hu:s.2≤1000000000) (hT:Tabs W):Calls Tryz.prog 119 #[.pointer (some ⟨g,0,none⟩),.agg (msc m)] w (AgRet W w g a b S N (hearF S N s m).1 (fun v=>.tuple #[v,.int .i64 (hearF S N s m).2.2]) (hearF S N s m).2.1):=by
 have H:=Vh h
 have rG:=h.2.1
 have CW:=Vh (Chg.refl [a,b] w)
 clear h
 rw [show hearF S N s m=(s,([],1)) by unfold hearF;rw [if_neg (by simp [gg])]]
 cases g3:mg m
 ·skip
  exact Tz32
 ·have g4:Y5 m.kd=false:=by simpa [g3] using gg
  exact Tz32
set_option maxHeartbeats 4000000 in
theorem ghear_0 {W:World} {g a b S N:Nat} {s:Sta} (m:Ms) (g3:mg m=true) (g4:Y5 m.kd=true) (nx:Int) (hnx:nx=tb m.kd (Qy s.1 m.li).st) (n0:nx=0) (w:World) (h:Agt W w g a b S N s) (hu:s.2≤1000000000) (hT:Tabs W):Calls Tryz.prog 119 #[.pointer (some ⟨g,0,none⟩),.agg (msc m)] w (AgRet W w g a b S N (hearF S N s m).1 (fun v=>.tuple #[v,.int .i64 (hearF S N s m).2.2]) (hearF S N s m).2.1):=by
 have H:=Vh h
 have rG:=h.2.1
 have CW:=Vh (Chg.refl [a,b] w)
 clear h
 have HN:=Vh (H.out.new2 (k:=w.heap.size) (Nat.le_refl _))
 have hf:=fun W' hW=>JK (w:=W') (s:=s) (W:=W) (g:=g) (a:=a) (b:=b) (S:=S) (N:=N) hW m.li
 have hsa:=Qdv H.out.sane m.li
 have hg:(mg m&&Y5 m.kd)=true:=by simp [g3,g4]
 rw [show hearF S N s m=(s,([],16)) by unfold hearF;rw [if_pos hg,←hnx,if_pos n0]]
 have n0':(nx==0)=true:=by simp [n0]
 clear hg n0
 generalize Qy s.1 m.li=x at hf hnx hsa
 go_enter Tryz.func119,Tryz.ntmps119
 try dsimp only [List.append]
 go_wp2_with fail
 refine Qbb (w:=w) (b1:=w.heap.size) (x1:=.cells (msc m) 184 (0,0)) Cz0 (by simp [*]) fun w1 C1 rM=>?_
 have oM:=old rM
 refine (Qcw m _ g3 w1 (hT.1.keep (H.out.1.1.trans C1) (by simp))).mono ?_
 rintro e w3 ⟨rfl,c3⟩
 replace rM:=c3.keep rM Vn
 have C3:=C1.trans c3
 replace H:=Vh (H.out.keep C3)
 replace CW:=Vh (YS (a:=a) (b:=b) C3)
 have nM:=H.out.new2 (k:=w.heap.size)
 clear C1 c3 C3 oM nM
 have rG:=H.out.2.1
 have oM:=old rM
 go_upto_region 3 with (go_at_call 162;refine (Qcv _ _ g4 _).mono ?_;rintro e w' ⟨rfl,rfl⟩)
 go_cut [6,7] (fun p q wx=>∃pX,p=.pointer (some ⟨pX,0,none⟩)∧q=.bool (XM s.1 m.li)∧wx.heap[pX]? =some (.cells (slc x) 147 (0,0))∧Chg [] w3 wx∧w3.heap.size≤pX)
 case first=>
  exact Tz6
 case rest=>
 obtain ⟨pX,rfl,rfl,rX,c5,lX⟩:=hcut
 have nX:=H.out.new2 lX
 generalize hw5:wc=w5 at *
 clear hw5
 replace rM:=c5.keep rM Vn
 have nM:w.heap.size∉[a,b]:=HN.out
 replace H:=Vh (H.out.keep c5)
 replace CW:=Vh (CW.out.trans (YS c5))
 clear c5
 have rG:=H.out.2.1
 have oM:=old rM
 have oX:=old rX
 have nG:=H.out.2.2.2.1
 obtain ⟨Kd,hKd,hKd2⟩:∃K:Nat,K<15∧m.kd=K:=by simp [Y5] at g4;exact ⟨m.kd.toNat,by omega,by omega⟩
 obtain ⟨Ks,hKs,hKs2⟩:∃K:Nat,K<10∧x.st=K:=⟨x.st.toNat,by omega,by omega⟩
 have hcell:=tb_cell Kd Ks hKd hKs
 rw [←hKd2,←hKs2,←hnx] at hcell
 clear hnx
 obtain ⟨tT,fT,rT⟩:=hT.2.keep H.out.1.1 (by simp)
 have k1:(Kd:Int)<15:=by omega
 have k2:(Ks:Int)<10:=by omega
 have k3:(0:Int)≤(Kd:Int):=by omega
 have k4:(0:Int)≤(Ks:Int):=by omega
 go_wp2_with fail
 go_quiet (fail)
 go_wp2_with fail
 go_ret2
 exact AgRet.nil (f:=fun v=>.tuple #[v,.int .i64 16]) (H.out.keep (Chg.drewN (Chg.refl [] w5) _)) (CW.out.trans (Chg.drewN (Chg.refl [a,b] w5) _))
set_option maxHeartbeats 4000000 in
theorem ghear_10 {W:World} {g a b S N:Nat} {s:Sta} (m:Ms) (g3:mg m=true) (g4:Y5 m.kd=true) (nx:Int) (hnx:nx=tb m.kd (Qy s.1 m.li).st) (n10:nx=10) (w:World) (h:Agt W w g a b S N s) (hu:s.2≤1000000000) (hT:Tabs W):Calls Tryz.prog 119 #[.pointer (some ⟨g,0,none⟩),.agg (msc m)] w (AgRet W w g a b S N (hearF S N s m).1 (fun v=>.tuple #[v,.int .i64 (hearF S N s m).2.2]) (hearF S N s m).2.1):=by
 have H:=Vh h
 have rG:=h.2.1
 have CW:=Vh (Chg.refl [a,b] w)
 clear h
 have HN:=Vh (H.out.new2 (k:=w.heap.size) (Nat.le_refl _))
 have hf:=fun W' hW=>JK (w:=W') (s:=s) (W:=W) (g:=g) (a:=a) (b:=b) (S:=S) (N:=N) hW m.li
 have hsa:=Qdv H.out.sane m.li
 have hg:(mg m&&Y5 m.kd)=true:=by simp [g3,g4]
 have n0:¬nx=0:=by omega
 rw [show hearF S N s m=(Qfn S N s m nx,(Xh m.kd (Qy s.1 m.li) nx,0)) by unfold hearF;rw [if_pos hg,←hnx,if_neg n0]]
 have n0':(nx==0)=false:=by simp [n0]
 have n1':(nx==10)=true:=by simp [n10]
 rw [show Qfn S N s m nx=Qit s m.li by unfold Qfn;rw [if_pos n10]]
 clear hg n0 n10
 generalize Qy s.1 m.li=x at hf hnx hsa
 go_enter Tryz.func119,Tryz.ntmps119
 try dsimp only [List.append]
 go_wp2_with fail
 refine Qbb (w:=w) (b1:=w.heap.size) (x1:=.cells (msc m) 184 (0,0)) Cz0 (by simp [*]) fun w1 C1 rM=>?_
 have oM:=old rM
 refine (Qcw m _ g3 w1 (hT.1.keep (H.out.1.1.trans C1) (by simp))).mono ?_
 rintro e w3 ⟨rfl,c3⟩
 replace rM:=c3.keep rM Vn
 have C3:=C1.trans c3
 replace H:=Vh (H.out.keep C3)
 replace CW:=Vh (YS (a:=a) (b:=b) C3)
 have nM:=H.out.new2 (k:=w.heap.size)
 clear C1 c3 C3 oM nM
 have rG:=H.out.2.1
 have oM:=old rM
 go_upto_region 3 with (go_at_call 162;refine (Qcv _ _ g4 _).mono ?_;rintro e w' ⟨rfl,rfl⟩)
 go_cut [6,7] (fun p q wx=>∃pX,p=.pointer (some ⟨pX,0,none⟩)∧q=.bool (XM s.1 m.li)∧wx.heap[pX]? =some (.cells (slc x) 147 (0,0))∧Chg [] w3 wx∧w3.heap.size≤pX)
 case first=>
  exact Tz6
 case rest=>
 obtain ⟨pX,rfl,rfl,rX,c5,lX⟩:=hcut
 have nX:=H.out.new2 lX
 generalize hw5:wc=w5 at *
 clear hw5
 replace rM:=c5.keep rM Vn
 have nM:w.heap.size∉[a,b]:=HN.out
 replace H:=Vh (H.out.keep c5)
 replace CW:=Vh (CW.out.trans (YS c5))
 clear c5
 have rG:=H.out.2.1
 have oM:=old rM
 have oX:=old rX
 have nG:=H.out.2.2.2.1
 obtain ⟨Kd,hKd,hKd2⟩:∃K:Nat,K<15∧m.kd=K:=by simp [Y5] at g4;exact ⟨m.kd.toNat,by omega,by omega⟩
 obtain ⟨Ks,hKs,hKs2⟩:∃K:Nat,K<10∧x.st=K:=⟨x.st.toNat,by omega,by omega⟩
 have hcell:=tb_cell Kd Ks hKd hKs
 rw [←hKd2,←hKs2,←hnx] at hcell
 clear hnx
 obtain ⟨tT,fT,rT⟩:=hT.2.keep H.out.1.1 (by simp)
 have k1:(Kd:Int)<15:=by omega
 have k2:(Ks:Int)<10:=by omega
 have k3:(0:Int)≤(Kd:Int):=by omega
 have k4:(0:Int)≤(Ks:Int):=by omega
 go_wp2_with fail
 go_quiet (fail)
 clear hKd2 hKs2
 have cD:Chg [] w5 (w5.drewN nq):=Chg.drewN (Chg.refl [] w5) nq
 generalize w5.drewN nq=w6 at cD ⊢
 replace H:=Vh (H.out.keep cD)
 replace CW:=Vh (CW.out.trans (YS cD))
 replace rM:=cD.keep rM Vn
 replace rX:=cD.keep rX Vn
 clear cD
 have rG:=H.out.2.1
 have oM:=old rM
 have oX:=old rX
 clear rT
 go_wp2_with fail
 go_region_held3 (fun w'=>w'.heap[g]? =some (.cells #[.pointer (some ⟨a,0,none⟩)] 200 (0,0))∧w'.heap[w.heap.size]? =some (.cells (msc m) 184 (0,0))∧w'.heap[pX]? =some (.cells (slc x) 147 (0,0))) (first |exact ⟨rG,rM,rX⟩|exact ⟨c8.keep rG Vn,c8.keep rM Vn,c8.keep rX Vn⟩|exact ⟨c4.keep rG nG,c4.keep rM nM,c4.keep rX nX⟩|exact ⟨c4.keep (c8.keep rG Vn) nG,c4.keep (c8.keep rM Vn) nM,c4.keep (c8.keep rX Vn) nX⟩)
  (first
   |(go_at_call 164;refine (gdrop_any (H.out.keep (Chg.drew (Chg.refl [] w6))) m.li).mono ?_;rintro e w4 ⟨rfl,h4,c4⟩))
 all_goals
  have cT:=Chg.trans (Chg.drew (Chg.refl [a,b] w6)) c4
  replace H:=Vh h4
  replace CW:=Vh (CW.out.trans cT)
  replace rX:=cT.keep rX nX
  replace rM:=cT.keep rM nM
  clear h4 c4 rG cT
  have rG:=H.out.2.1
  go_wp2_with fail
  refine (Qds _ x nx _).mono ?_
  rintro e w9 ⟨A,n,rfl,h1,c9⟩
  go_wp2_with fail
  go_ret2
  exact AgRet.ms (f:=fun v=>.tuple #[v,.int .i64 0]) H.out CW.out h1 c9
set_option maxHeartbeats 4000000 in
theorem ghear_11 {W:World} {g a b S N:Nat} {s:Sta} (m:Ms) (g3:mg m=true) (g4:Y5 m.kd=true) (nx:Int) (hnx:nx=tb m.kd (Qy s.1 m.li).st) (n11:nx=11) (w:World) (h:Agt W w g a b S N s) (hu:s.2≤1000000000) (hT:Tabs W):Calls Tryz.prog 119 #[.pointer (some ⟨g,0,none⟩),.agg (msc m)] w (AgRet W w g a b S N (hearF S N s m).1 (fun v=>.tuple #[v,.int .i64 (hearF S N s m).2.2]) (hearF S N s m).2.1):=by
 have H:=Vh h
 have rG:=h.2.1
 have CW:=Vh (Chg.refl [a,b] w)
 clear h
 have HN:=Vh (H.out.new2 (k:=w.heap.size) (Nat.le_refl _))
 have hf:=fun W' hW=>JK (w:=W') (s:=s) (W:=W) (g:=g) (a:=a) (b:=b) (S:=S) (N:=N) hW m.li
 have hsa:=Qdv H.out.sane m.li
 have hg:(mg m&&Y5 m.kd)=true:=by simp [g3,g4]
 have n0:¬nx=0:=by omega
 rw [show hearF S N s m=(Qfn S N s m nx,(Xh m.kd (Qy s.1 m.li) nx,0)) by unfold hearF;rw [if_pos hg,←hnx,if_neg n0]]
 have n0':(nx==0)=false:=by simp [n0]
 have n1':(nx==10)=false:=by simp;omega
 have n2':(nx==11)=true:=by simp [n11]
 rw [show Qfn S N s m nx=s by unfold Qfn;rw [if_neg (by omega),if_pos n11]]
 clear hg n0 n11
 generalize Qy s.1 m.li=x at hf hnx hsa
 go_enter Tryz.func119,Tryz.ntmps119
 try dsimp only [List.append]
 go_wp2_with fail
 refine Qbb (w:=w) (b1:=w.heap.size) (x1:=.cells (msc m) 184 (0,0)) Cz0 (by simp [*]) fun w1 C1 rM=>?_
 have oM:=old rM
 refine (Qcw m _ g3 w1 (hT.1.keep (H.out.1.1.trans C1) (by simp))).mono ?_
 rintro e w3 ⟨rfl,c3⟩
 replace rM:=c3.keep rM Vn
 have C3:=C1.trans c3
 replace H:=Vh (H.out.keep C3)
 replace CW:=Vh (YS (a:=a) (b:=b) C3)
 have nM:=H.out.new2 (k:=w.heap.size)
 clear C1 c3 C3 oM nM
 have rG:=H.out.2.1
 have oM:=old rM
 go_upto_region 3 with (go_at_call 162;refine (Qcv _ _ g4 _).mono ?_;rintro e w' ⟨rfl,rfl⟩)
 go_cut [6,7] (fun p q wx=>∃pX,p=.pointer (some ⟨pX,0,none⟩)∧q=.bool (XM s.1 m.li)∧wx.heap[pX]? =some (.cells (slc x) 147 (0,0))∧Chg [] w3 wx∧w3.heap.size≤pX)
 case first=>
  exact Tz6
 case rest=>
 obtain ⟨pX,rfl,rfl,rX,c5,lX⟩:=hcut
 have nX:=H.out.new2 lX
 generalize hw5:wc=w5 at *
 clear hw5
 replace rM:=c5.keep rM Vn
 have nM:w.heap.size∉[a,b]:=HN.out
 replace H:=Vh (H.out.keep c5)
 replace CW:=Vh (CW.out.trans (YS c5))
 clear c5
 have rG:=H.out.2.1
 have oM:=old rM
 have oX:=old rX
 have nG:=H.out.2.2.2.1
 obtain ⟨Kd,hKd,hKd2⟩:∃K:Nat,K<15∧m.kd=K:=by simp [Y5] at g4;exact ⟨m.kd.toNat,by omega,by omega⟩
 obtain ⟨Ks,hKs,hKs2⟩:∃K:Nat,K<10∧x.st=K:=⟨x.st.toNat,by omega,by omega⟩
 have hcell:=tb_cell Kd Ks hKd hKs
 rw [←hKd2,←hKs2,←hnx] at hcell
 clear hnx
 obtain ⟨tT,fT,rT⟩:=hT.2.keep H.out.1.1 (by simp)
 have k1:(Kd:Int)<15:=by omega
 have k2:(Ks:Int)<10:=by omega
 have k3:(0:Int)≤(Kd:Int):=by omega
 have k4:(0:Int)≤(Ks:Int):=by omega
 go_wp2_with fail
 go_quiet (fail)
 clear hKd2 hKs2
 have cD:Chg [] w5 (w5.drewN nq):=Chg.drewN (Chg.refl [] w5) nq
 generalize w5.drewN nq=w6 at cD ⊢
 replace H:=Vh (H.out.keep cD)
 replace CW:=Vh (CW.out.trans (YS cD))
 replace rM:=cD.keep rM Vn
 replace rX:=cD.keep rX Vn
 clear cD
 have rG:=H.out.2.1
 have oM:=old rM
 have oX:=old rX
 clear rT
 go_wp2_with fail
 refine (Qds _ x nx _).mono ?_
 rintro e w9 ⟨A,n,rfl,h1,c9⟩
 go_wp2_with fail
 go_ret2
 exact AgRet.ms (f:=fun v=>.tuple #[v,.int .i64 0]) H.out CW.out h1 c9
set_option maxHeartbeats 4000000 in
theorem ghear_s {W:World} {g a b S N:Nat} {s:Sta} (m:Ms) (g3:mg m=true) (g4:Y5 m.kd=true) (nx:Int) (hnx:nx=tb m.kd (Qy s.1 m.li).st) (n0:¬nx=0) (n10:¬nx=10) (n11:¬nx=11) (w:World) (h:Agt W w g a b S N s) (hu:s.2≤1000000000) (hT:Tabs W):Calls Tryz.prog 119 #[.pointer (some ⟨g,0,none⟩),.agg (msc m)] w (AgRet W w g a b S N (hearF S N s m).1 (fun v=>.tuple #[v,.int .i64 (hearF S N s m).2.2]) (hearF S N s m).2.1):=by
 have H:=Vh h
 have rG:=h.2.1
 have CW:=Vh (Chg.refl [a,b] w)
 clear h
 have HN:=Vh (H.out.new2 (k:=w.heap.size) (Nat.le_refl _))
 have hf:=fun W' hW=>JK (w:=W') (s:=s) (W:=W) (g:=g) (a:=a) (b:=b) (S:=S) (N:=N) hW m.li
 have hsa:=Qdv H.out.sane m.li
 have hg:(mg m&&Y5 m.kd)=true:=by simp [g3,g4]
 rw [show hearF S N s m=(Qfn S N s m nx,(Xh m.kd (Qy s.1 m.li) nx,0)) by unfold hearF;rw [if_pos hg,←hnx,if_neg n0]]
 have n0':(nx==0)=false:=by simp [n0]
 have n1':(nx==10)=false:=by simp [n10]
 have n2':(nx==11)=false:=by simp [n11]
 have e1:Qfn S N s m nx=setS S N s m.li nx (Y4 m (Qy s.1 m.li) nx) (Qd7 _ _ _):=by unfold Qfn;rw [if_neg n10,if_neg n11]
 rw [e1]
 clear e1 hg n0 n10 n11
 generalize Qy s.1 m.li=x at hf hnx hsa
 go_enter Tryz.func119,Tryz.ntmps119
 try dsimp only [List.append]
 go_wp2_with fail
 refine Qbb (w:=w) (b1:=w.heap.size) (x1:=.cells (msc m) 184 (0,0)) Cz0 (by simp [*]) fun w1 C1 rM=>?_
 have oM:=old rM
 refine (Qcw m _ g3 w1 (hT.1.keep (H.out.1.1.trans C1) (by simp))).mono ?_
 rintro e w3 ⟨rfl,c3⟩
 replace rM:=c3.keep rM Vn
 have C3:=C1.trans c3
 replace H:=Vh (H.out.keep C3)
 replace CW:=Vh (YS (a:=a) (b:=b) C3)
 have nM:=H.out.new2 (k:=w.heap.size)
 clear C1 c3 C3 oM nM
 have rG:=H.out.2.1
 have oM:=old rM
 go_upto_region 3 with (go_at_call 162;refine (Qcv _ _ g4 _).mono ?_;rintro e w' ⟨rfl,rfl⟩)
 go_cut [6,7] (fun p q wx=>∃pX,p=.pointer (some ⟨pX,0,none⟩)∧q=.bool (XM s.1 m.li)∧wx.heap[pX]? =some (.cells (slc x) 147 (0,0))∧Chg [] w3 wx∧w3.heap.size≤pX)
 case first=>
  exact Tz6
 case rest=>
 obtain ⟨pX,rfl,rfl,rX,c5,lX⟩:=hcut
 have nX:=H.out.new2 lX
 generalize hw5:wc=w5 at *
 clear hw5
 replace rM:=c5.keep rM Vn
 have nM:w.heap.size∉[a,b]:=HN.out
 replace H:=Vh (H.out.keep c5)
 replace CW:=Vh (CW.out.trans (YS c5))
 clear c5
 have rG:=H.out.2.1
 have oM:=old rM
 have oX:=old rX
 have nG:=H.out.2.2.2.1
 obtain ⟨Kd,hKd,hKd2⟩:∃K:Nat,K<15∧m.kd=K:=by simp [Y5] at g4;exact ⟨m.kd.toNat,by omega,by omega⟩
 obtain ⟨Ks,hKs,hKs2⟩:∃K:Nat,K<10∧x.st=K:=⟨x.st.toNat,by omega,by omega⟩
 have hcell:=tb_cell Kd Ks hKd hKs
 rw [←hKd2,←hKs2,←hnx] at hcell
 clear hnx
 obtain ⟨tT,fT,rT⟩:=hT.2.keep H.out.1.1 (by simp)
 have k1:(Kd:Int)<15:=by omega
 have k2:(Ks:Int)<10:=by omega
 have k3:(0:Int)≤(Kd:Int):=by omega
 have k4:(0:Int)≤(Ks:Int):=by omega
 go_wp2_with fail
 go_quiet (fail)
 clear hKd2 hKs2
 have cD:Chg [] w5 (w5.drewN nq):=Chg.drewN (Chg.refl [] w5) nq
 generalize w5.drewN nq=w6 at cD ⊢
 replace H:=Vh (H.out.keep cD)
 replace CW:=Vh (CW.out.trans (YS cD))
 replace rM:=cD.keep rM Vn
 replace rX:=cD.keep rX Vn
 clear cD
 have rG:=H.out.2.1
 have oM:=old rM
 have oX:=old rX
 clear rT
 go_wp2_with fail
 go_region_held3 (fun w'=>w'.heap[g]? =some (.cells #[.pointer (some ⟨a,0,none⟩)] 200 (0,0))∧w'.heap[w.heap.size]? =some (.cells (msc m) 184 (0,0))∧w'.heap[pX]? =some (.cells (slc x) 147 (0,0))) (first |exact ⟨rG,rM,rX⟩|exact ⟨c8.keep rG Vn,c8.keep rM Vn,c8.keep rX Vn⟩|exact ⟨c4.keep rG nG,c4.keep rM nM,c4.keep rX nX⟩|exact ⟨c4.keep (c8.keep rG Vn) nG,c4.keep (c8.keep rM Vn) nM,c4.keep (c8.keep rX Vn) nX⟩)
  (first
   |(go_at_call 166;refine (gwords_any m x nx _).mono ?_;rintro e w8 ⟨rfl,c8⟩)
   |(go_at_call 165;refine (Qfp (H.out.keep (Chg.trans (Chg.drew (Chg.refl [] w6)) c8)) hu m.li nx _ (Qd7 m x nx)).mono ?_;rintro e w4 ⟨rfl,h4,c4⟩))
 all_goals
  have cT:=Chg.trans (YS (Chg.trans (Chg.drew (Chg.refl [] w6)) c8)) c4
  replace H:=Vh h4
  replace CW:=Vh (CW.out.trans cT)
  replace rX:=cT.keep rX nX
  replace rM:=cT.keep rM nM
  clear h4 c4 rG cT
  have rG:=H.out.2.1
  go_wp2_with fail
  refine (Qds _ x nx _).mono ?_
  rintro e w9 ⟨A,n,rfl,h1,c9⟩
  go_wp2_with fail
  go_ret2
  exact AgRet.ms (f:=fun v=>.tuple #[v,.int .i64 0]) H.out CW.out h1 c9
theorem ghear_any {W:World} {g a b S N:Nat} {s:Sta} (m:Ms) (w:World) (h:Agt W w g a b S N s) (hu:s.2≤1000000000) (hT:Tabs W):Calls Tryz.prog 119 #[.pointer (some ⟨g,0,none⟩),.agg (msc m)] w (AgRet W w g a b S N (hearF S N s m).1 (fun v=>.tuple #[v,.int .i64 (hearF S N s m).2.2]) (hearF S N s m).2.1):=by
 cases gg:(mg m&&Y5 m.kd)
 ·exact ghear_args m gg w h hu hT
 ·have g':=gg
  rw [Bool.and_eq_true] at g'
  by_cases n0:tb m.kd (Qy s.1 m.li).st=0
  ·exact ghear_0 m g'.1 g'.2 _ rfl n0 w h hu hT
  by_cases n10:tb m.kd (Qy s.1 m.li).st=10
  ·exact ghear_10 m g'.1 g'.2 _ rfl n10 w h hu hT
  by_cases n11:tb m.kd (Qy s.1 m.li).st=11
  ·exact ghear_11 m g'.1 g'.2 _ rfl n11 w h hu hT
  ·exact ghear_s m g'.1 g'.2 _ rfl n0 n10 n11 w h hu hT
end
section
def Tol (a b:Nat) (w:World) (A:Option Addr) (ms:List Ms):Prop:=Sl w 12 A ms.length (cat Ms.enc ms)∧∀x,A=some x→x.block∉[a,b]
section
variable {a b:Nat} {w w':World} {A:Option Addr} {ms:List Ms}
theorem Tol.keep (h:Tol a b w A ms) (hc:Chg [a,b] w w'):Tol a b w' A ms:=⟨h.1.chg hc h.2,h.2⟩
theorem Tol.msg (h:Tol a b w A ms) {i:Nat} {m:Ms} (hm:ms[i]? =some m):∃b o cs t f,A=some ⟨b,o,none⟩∧w.heap[b]? =some (.cells cs t f)∧cs[o+i*12]? =some (.int .i64 m.kd)∧cs[o+i*12+1]? =some (.int .i64 m.li)∧cs[o+i*12+2]? =some (.bool m.di)∧cs[o+i*12+3]? =some (.bool m.ke)∧
 (∀k:Nat,k<8→cs[o+i*12+4+k]? =some (.int .u64 (m.l.getD k 0)))∧Qbo (some (.cells cs t f)) (o+i*12+4) 8=true∧XF (some (.cells cs t f)) (o+i*12+4) 8=vs m.l:=by
 have hi:i<ms.length:=(Vg hm).1
 have hm8:=m.h
 obtain ⟨b,o,rfl⟩:=h.1.addr (by omega)
 obtain ⟨cs,t,f,hb,hc,hp⟩:=h.1.elem (by omega) hi (YI Ms.len hm)
 refine ⟨b,o,cs,t,f,rfl,hb,?_,?_,?_,?_,?_,(hp 4 8 (by omega)).1,?_⟩
 ·have:=hc 0 (by omega);rw [Nat.add_zero] at this;rw [this];rfl
 ·rw [hc 1 (by omega)];rfl
 ·rw [hc 2 (by omega)];rfl
 ·rw [hc 3 (by omega)];rfl
 ·intro k hk
  rw [show o+i*12+4+k=o+i*12+(4+k) by omega,hc (4+k) (by omega)]
  unfold Ms.enc
  rw [show 4+k=k+1+1+1+1 by omega,List.getElem?_cons_succ,List.getElem?_cons_succ,List.getElem?_cons_succ,List.getElem?_cons_succ,List.getElem?_map,List.getD_eq_getElem?_getD,List.getElem?_eq_getElem (by omega)]
  rfl
 ·rw [(hp 4 8 (by omega)).2]
  unfold Ms.enc vs
  rw [List.drop_succ_cons,List.drop_succ_cons,List.drop_succ_cons,List.drop_succ_cons,List.drop_zero,List.take_of_length_le (by simp [hm8])]
end
theorem gnew_ok (S N:Nat) (W w:World) (hc:Chg [] W w) (h:Qb1 S N):Calls Tryz.prog 75 #[.int .i64 S,.int .i64 N] w fun e w'=>∃g a b,e=.returned (.tuple #[.pointer (some ⟨g,0,none⟩),.int .i64 0])∧Agt W w' g a b S N (List.replicate (S*N) sltZ,0)∧Chg [] w w':=by
 go_enter Tryz.func75,Tryz.ntmps75
 try dsimp only [List.append]
 go_wp2_with fail
 refine (sys_new S N W w hc h).mono ?_
 rintro e w2 ⟨a,b,rfl,hs,c2⟩
 have HS:=Vh hs
 have HC:=Vh c2
 clear hs c2
 go_wp2_with fail
 go_ret2
 refine ⟨w2.heap.size,a,b,rfl,⟨HS.out.keep ((Chg.refl [] w2).alloc _),by simp,HS.out.1.size,HS.out.new2 (Nat.le_refl _),Sane.new _,by show (0:Int)≤0;omega⟩,HC.out.alloc _⟩
end
end Go.Proofs.YtlidfghgjjffaaaGreatDoor
namespace Go.Proofs.YtlidfghgjjffaaaGreatDoor
open Go.RowKit
set_option linter.unusedVariables false
set_option maxHeartbeats 1000000
set_option maxRecDepth 100000
attribute [local go_sem ↓] Qv QF Qx QP QG Qs Zg Q7 ZH Zt Qk Qh heap_alloc Ql heap_setCell Qc XG XP XO Zi ZP Zu Xk ZQ Xq Xp Xy Xx
attribute [local go_sem] Qb Qa Qe Qi Qd Qg Qf Qt Zk Zf ZE QB Qw QN QL QM Q6 QJ QA Qr QD QX QI Qq QC Qp Qj Qo Qn Qm Zj Zv lit8 QV Xc ZG ZL ZV Zn ZM Xj ZN QH ZO Zx Zy QZ QY Zb XB
attribute [local simp ↓] Qk Qh heap_alloc Ql heap_setCell Qc
attribute [local simp] Qb Qa Qe Qi Qd Qg Qf Qt Qr Qj Qo Qn Qm QV QH QZ QY Zb QD
section
structure Pt where
 s:Sta
 up:List Ms
 an:List Ms
 dn:List Ms
structure Po where
 g:Nat
 a:Nat
 b:Nat
 ub:Nat
 uA:Option Addr
 uc:Nat
 nb:Nat
 nA:Option Addr
 nc:Nat
 db:Nat
 dA:Option Addr
 dc:Nat
def penc (y:Po×Pt):List Value:=[.pointer (some ⟨y.1.g,0,none⟩),.slice y.1.uA y.2.up.length y.1.uc,.slice none 0 0,.slice y.1.nA y.2.an.length y.1.nc,.slice none 0 0,.slice y.1.dA y.2.dn.length y.1.dc,.slice none 0 0]
theorem Qhn (y:Po×Pt):(penc y).length=7:=rfl
def opt (q b:Nat):List Nat:=if b=q then [] else [b]
theorem Yd {q b k:Nat}:k∈opt q b↔k=b∧b≠q:=by
 unfold opt;split<;>simp [*]
def Po.foot (po:Nat) (p:Po):List Nat:=[p.g,p.a,p.b]++(opt po p.ub++(opt po p.nb++opt po p.db))
def PortOk (W w:World) (po S N:Nat) (y:Po×Pt):Prop:=
 Agt W w y.1.g y.1.a y.1.b S N y.2.s∧Vof 12 184 Ms.enc w po y.1.ub y.1.uA y.1.uc y.2.up∧Vof 12 184 Ms.enc w po y.1.nb y.1.nA y.1.nc y.2.an∧Vof 12 184 Ms.enc w po y.1.db y.1.dA y.1.dc y.2.dn
theorem Vof.keepN {α:Type} {k:Nat} {e:TypeId} {enc:α→List Value} {w w':World} {q be:Nat} {A:Option Addr} {cap:Nat} {xs:List α} {l:List Nat} (h:Vof k e enc w q be A cap xs) (hc:Chg l w w') (hb:be≠q→be∉l):Vof k e enc w' q be A cap xs:=by
 by_cases hbq:be=q
 ·rcases h with h|⟨h1,_⟩
  ·exact .inl h
  ·exact absurd hbq h1
 ·exact h.keep hc (hb hbq)
theorem Agt.keepL {W w w':World} {g a b S N:Nat} {s:Sta} {l:List Nat} (h:Agt W w g a b S N s) (hc:Chg l w w') (hl:∀x∈l,W.heap.size≤x) (hg:g∉l) (ha:a∉l) (hb:b∉l):Agt W w' g a b S N s:=
 ⟨⟨h.1.1.trans' hc (fun x hx=>.inr (hl x hx)),h.1.2.1.keep hc ha hb,h.1.2.2⟩,hc.keep h.2.1 hg,h.2.2⟩
theorem PortOk.keep {W w w':World} {po S N:Nat} {y:Po×Pt} {l:List Nat} (h:PortOk W w po S N y) (hc:Chg l w w') (hl:∀x∈l,W.heap.size≤x) (hd:∀x∈y.1.foot po,x∉l):PortOk W w' po S N y:=by
 obtain ⟨h1,h2,h3,h4⟩:=h
 have e:∀k,(k=y.1.g∨k=y.1.a∨k=y.1.b∨(k=y.1.ub∧y.1.ub≠po)∨(k=y.1.nb∧y.1.nb≠po)∨(k=y.1.db∧y.1.db≠po))→k∉l:=by
  intro k hk
  refine hd k ?_
  unfold Po.foot
  simp only [List.mem_append,List.mem_cons,Vn,or_false,Yd]
  rcases hk with h|h|h|h|h|h<;>simp [h]
 exact ⟨h1.keepL hc hl (e _ (by simp)) (e _ (by simp)) (e _ (by simp)),h2.keepN hc (fun hb=>e _ (by simp [hb])),h3.keepN hc (fun hb=>e _ (by simp [hb])),h4.keepN hc (fun hb=>e _ (by simp [hb]))⟩
theorem PortOk.old {W w:World} {po S N:Nat} {y:Po×Pt} (h:PortOk W w po S N y) (hp:Old w po):∀x∈y.1.foot po,x<w.heap.size:=by
 obtain ⟨h1,h2,h3,h4⟩:=h
 intro x hx
 unfold Po.foot at hx
 simp only [List.mem_append,List.mem_cons,Vn,or_false,Yd] at hx
 have a1:=h1.old2
 simp only [List.mem_cons,Vn,or_false,forall_eq_or_imp,forall_eq] at a1
 rcases hx with (h|h|h)|h|h|h
 ·rw [h];exact Z6 h1.2.1
 ·rw [h];exact a1.1
 ·rw [h];exact a1.2
 ·rw [h.1];exact h2.old hp
 ·rw [h.1];exact h3.old hp
 ·rw [h.1];exact h4.old hp
theorem cat_set {α:Type} {k:Nat} {enc:α→List Value} (hk:∀a,(enc a).length=k):∀(xs:List α) (i:Nat) (a b:α) (o:Nat) (v:Value),xs[i]? =some a→o<k→enc b=(enc a).set o v→cat enc (xs.set i b)=(cat enc xs).set (i*k+o) v
 |[],i,a,b,o,v,h,_,_=>by simp at h
 |x::xs,0,a,b,o,v,h,ho,he=>by
  simp at h
  subst h
  simp only [List.set_cons_zero,cat_cons,Nat.zero_mul,Nat.zero_add]
  rw [he,List.set_append_left _ _ (by rw [hk];exact ho)]
 |x::xs,i+1,a,b,o,v,h,ho,he=>by
  simp only [List.getElem?_cons_succ] at h
  simp only [List.set_cons_succ,cat_cons]
  rw [cat_set hk xs i a b o v h ho he,List.set_append_right _ _ (by rw [hk,Nat.add_mul];omega)]
  congr 2
  rw [hk,Nat.add_mul]
  omega
theorem sq_put {α:Type} {k:Nat} {enc:α→List Value} (hk:∀a,(enc a).length=k) {xs:List α} {i:Nat} {a b:α} {o:Nat} {v:Value} (h:xs[i]? =some a) (ho:o<k) (he:enc b=(enc a).set o v):(sq enc xs []).setIfInBounds (i*k+o) v=sq enc (xs.set i b) []:=by
 unfold sq
 rw [List.setIfInBounds_toArray,List.append_nil,List.append_nil,cat_set hk xs i a b o v h ho he]
end
section
structure Cg where
 co:Nat
 li:Nat
 vo:Nat
 se:Nat
 wa:Nat
 qu:Nat
 st:Nat
def Cg.enc (c:Cg):List Value:=[.int .i64 c.co,.int .i64 c.li,.int .i64 c.vo,.int .i64 c.se,.int .i64 c.wa,.int .i64 c.qu,.int .i64 c.st]
structure Lay where
 sy:Nat
 q:Nat
 be:Nat
 g:Nat
 b:Nat
 po:Nat
 en:Nat
 ks:List Int
def Lay.enc (z:Lay) (c:Cg):List Value:=c.enc++[.pointer (some ⟨z.q,0,none⟩),.slice (some ⟨z.po,0,none⟩) c.co c.co,.slice (some ⟨z.en,0,none⟩) c.li c.li]++z.ks.map (Value.int .u64)
def Lay.base (z:Lay):List Nat:=[z.sy,z.q,z.g,z.b,z.po,z.en]++opt z.q z.be
def feet (po:Nat) (L:List (Po×Pt)):List Nat:=(L.map (fun y=>y.1.foot po)).flatten
def Lay.all (z:Lay) (L:List (Po×Pt)):List Nat:=z.base++feet z.po L
structure Msd (W w:World) (c:Cg) (z:Lay) (L:List (Po×Pt)) (en:List En) (es:List Ent) (xs:List Int):Prop where
 chg:Chg [] W w
 sys:w.heap[z.sy]? =some (.cells (z.enc c).toArray 103 (0,0))
 six:z.ks.length=6
 mem:Sys W w z.q z.be z.g z.b c.li c.vo c.qu es xs
 ports:w.heap[z.po]? =some (.cells (sq penc L []) 162 (0,0))
 cores:L.length=c.co
 ents:w.heap[z.en]? =some (.cells (sq En.enc en []) 107 (0,0))
 lines:en.length=c.li
 ok:∀y∈L,PortOk W w z.po c.se c.wa y
 apart:(z.all L).Nodup
 new:∀k∈z.all L,W.heap.size≤k
theorem Qec {po:Nat} {L:List (Po×Pt)} {k:Nat}:k∈feet po L↔∃y∈L,k∈y.1.foot po:=by
 unfold feet;simp only [List.mem_flatten,List.mem_map]
 constructor
 ·rintro ⟨l,⟨y,hy,rfl⟩,hk⟩;exact ⟨y,hy,hk⟩
 ·rintro ⟨y,hy,hk⟩;exact ⟨_,⟨y,hy,rfl⟩,hk⟩
section
variable {W w w':World} {c:Cg} {z:Lay} {L:List (Po×Pt)} {en:List En} {es:List Ent} {xs:List Int} (h:Msd W w c z L en es xs)
include h
theorem Msd.oldp:Old w z.po:=Go.Proofs.YtlidfghgjjffaaaGreatDoor.old h.ports
theorem Msd.old:∀k∈z.all L,k<w.heap.size:=by
 intro k hk
 unfold Lay.all Lay.base at hk
 simp only [List.mem_append,List.mem_cons,Vn,or_false,Yd,Qec] at hk
 rcases hk with ((h1|h1|h1|h1|h1|h1)|h1)|⟨y,hy,h1⟩
 ·rw [h1];exact Z6 h.sys
 ·rw [h1];exact h.mem.2.1.oldq.lt
 ·rw [h1];exact h.mem.2.2.1.oldg
 ·rw [h1];exact h.mem.2.2.1.oldb
 ·rw [h1];exact Z6 h.ports
 ·rw [h1];exact Z6 h.ents
 ·rw [h1.1];exact h.mem.2.1.olde.lt
 ·exact (h.ok y hy).old h.oldp k h1
theorem Msd.own {i:Nat} {y:Po×Pt} (hy:L[i]? =some y):∀k∈y.1.foot z.po,k∉z.base∧(∀j y',L[j]? =some y'→j≠i→k∉y'.1.foot z.po)∧k∈z.all L:=by
 intro k hk
 have hm:k∈feet z.po L:=Qec.2 ⟨y,List.mem_of_getElem? hy,hk⟩
 have hn:=h.apart
 unfold Lay.all at hn ⊢
 rw [List.nodup_append] at hn
 refine ⟨fun hb=>hn.2.2 k hb k hm rfl,?_,List.mem_append_right _ hm⟩
 intro j y' hy' hj hk'
 have hf:=hn.2.1
 unfold feet at hf
 unfold List.Nodup at hf
 rw [List.pairwise_flatten] at hf
 have hp:=hf.2
 rw [List.pairwise_map] at hp
 rw [List.pairwise_iff_getElem] at hp
 obtain ⟨hi1,hi2⟩:=Vg hy
 obtain ⟨hj1,hj2⟩:=Vg hy'
 rcases Nat.lt_or_gt_of_ne hj with hlt|hlt
 ·have:=hp j i hj1 hi1 hlt
  rw [hi2,hj2] at this
  exact this k hk' k hk rfl
 ·have:=hp i j hi1 hj1 hlt
  rw [hi2,hj2] at this
  exact this k hk k hk' rfl
theorem Msd.nodupB:z.base.Nodup:=(List.nodup_append.1 h.apart).1
theorem Msd.foot1 {y:Po×Pt} (hy:y∈L):(y.1.foot z.po).Nodup:=by
 have hf:=(List.nodup_append.1 h.apart).2.1
 unfold feet List.Nodup at hf
 exact (List.pairwise_flatten.1 hf).1 _ (List.mem_map_of_mem hy)
theorem Msd.keep (hc:Chg [] w w'):Msd W w' c z L en es xs:=
 ⟨h.chg.trans hc,hc.keep h.sys (by simp),h.six,h.mem.keep hc,hc.keep h.ports (by simp),h.cores,hc.keep h.ents (by simp),h.lines,fun y hy=>(h.ok y hy).keep hc (by simp) (by simp),h.apart,h.new⟩
theorem Msd.keepL {l:List Nat} (hc:Chg l w w') (hl:∀k∈l,k∉z.all L) (hw:∀k∈l,W.heap.size≤k):Msd W w' c z L en es xs:=by
 have e:∀k∈z.all L,k∉l:=fun k hk hm=>hl k hm hk
 have eb:∀k∈z.base,k∉l:=fun k hk=>e k (List.mem_append_left _ hk)
 have e6:z.sy∉l∧z.q∉l∧z.g∉l∧z.b∉l∧z.po∉l∧z.en∉l:=by
  refine ⟨eb _ ?_,eb _ ?_,eb _ ?_,eb _ ?_,eb _ ?_,eb _ ?_⟩<;>simp [Lay.base]
 have e7:z.be∉l:=by
  by_cases hb:z.be=z.q
  ·rw [hb];exact e6.2.1
  ·exact eb _ (by simp [Lay.base,Yd,hb])
 refine ⟨h.chg.trans' hc (fun k hk=>.inr (hw k hk)),hc.keep h.sys e6.1,h.six,⟨h.mem.1.trans' hc (fun k hk=>.inr (hw k hk)),h.mem.2.1.keep hc e6.2.1 e7,h.mem.2.2.1.keep hc e6.2.2.1 e6.2.2.2.1,h.mem.2.2.2⟩,hc.keep h.ports e6.2.2.2.2.1,h.cores,hc.keep h.ents e6.2.2.2.2.2,h.lines,?_,h.apart,h.new⟩
 intro y hy
 refine (h.ok y hy).keep hc hw (fun k hk=>e k ?_)
 exact List.mem_append_right _ (Qec.2 ⟨y,hy,hk⟩)
end
theorem nodup_feet {po:Nat} {L:List (Po×Pt)} (h1:∀y∈L,(y.1.foot po).Nodup) (h2:∀(i j:Nat) (y y':Po×Pt),i≠j→L[i]? =some y→L[j]? =some y'→∀k∈y.1.foot po,k∉y'.1.foot po):(feet po L).Nodup:=by
 unfold feet List.Nodup
 rw [List.pairwise_flatten]
 refine ⟨?_,?_⟩
 ·intro l hl
  obtain ⟨y,hy,rfl⟩:=List.mem_map.1 hl
  exact h1 y hy
 ·rw [List.pairwise_map,List.pairwise_iff_getElem]
  intro i j hi hj hij k hk k' hk' e
  subst e
  exact h2 i j _ _ (by omega) (List.getElem?_eq_getElem hi) (List.getElem?_eq_getElem hj) k hk hk'
theorem Lay.inB {z:Lay} {L:List (Po×Pt)} {k:Nat} (hk:k∈z.base):k∈z.all L:=List.mem_append_left _ hk
theorem Lay.beB {z:Lay} {k:Nat} (hk:k=z.sy∨k=z.q∨k=z.g∨k=z.b∨k=z.po∨k=z.en∨k=z.be):k∈z.base:=by
 unfold Lay.base
 simp only [List.mem_append,List.mem_cons,Vn,or_false,Yd]
 by_cases hb:z.be=z.q
 ·rcases hk with h|h|h|h|h|h|h<;>simp [h,hb]
 ·rcases hk with h|h|h|h|h|h|h<;>simp [h,hb]
def MTo (W w:World) (c:Cg) (z:Lay) (L:List (Po×Pt)) (z':Lay) (L':List (Po×Pt)) (en:List En) (es:List Ent) (xs:List Int) (w':World):Prop:=
 Msd W w' c z' L' en es xs∧Chg (z.all L) w w'∧∀k∈z'.all L',k∈z.all L∨w.heap.size≤k
theorem MTo.trans {W w w1 w2:World} {c:Cg} {z z1 z2:Lay} {L L1 L2:List (Po×Pt)} {en1 en2:List En} {es1 es2:List Ent} {xs1 xs2:List Int}
 (h1:MTo W w c z L z1 L1 en1 es1 xs1 w1) (h2:MTo W w1 c z1 L1 z2 L2 en2 es2 xs2 w2):MTo W w c z L z2 L2 en2 es2 xs2 w2:=by
 refine ⟨h2.1,h1.2.1.trans' h2.2.1 h1.2.2,fun k hk=>?_⟩
 rcases h2.2.2 k hk with h|h
 ·exact h1.2.2 k h
 ·exact .inr (Nat.le_trans h1.2.1.size h)
section
variable {W w w':World} {c:Cg} {z:Lay} {L:List (Po×Pt)} {en:List En} {es:List Ent} {xs:List Int} (h:Msd W w c z L en es xs)
include h
theorem Msd.stay (hc:Chg [] w w'):MTo W w c z L z L en es xs w':=⟨h.keep hc,hc.mono (by simp),fun k hk=>.inl hk⟩
theorem Msd.inW {l:List Nat} (hl:∀k∈l,k∈z.all L):∀k∈l,W.heap.size≤k:=fun k hk=>h.new k (hl k hk)
theorem Msd.ne6:(z.sy≠z.q∧z.sy≠z.g∧z.sy≠z.b∧z.sy≠z.po∧z.sy≠z.en)∧(z.q≠z.g∧z.q≠z.b∧z.q≠z.po∧z.q≠z.en)∧(z.g≠z.b∧z.g≠z.po∧z.g≠z.en)∧(z.b≠z.po∧z.b≠z.en)∧z.po≠z.en∧(z.be≠z.sy∧z.be≠z.g∧z.be≠z.b∧z.be≠z.po∧z.be≠z.en):=by
 have hn:=h.nodupB
 unfold Lay.base opt at hn
 by_cases hb:z.be=z.q
 ·rw [if_pos hb] at hn
  simp only [List.append_nil,List.nodup_cons,List.mem_cons,Vn,or_false,not_or,List.nodup_nil,and_true,not_false_eq_true] at hn
  rw [hb]
  have:=hn.1.1
  have:=hn.2.1
  simp_all [Ne.symm]
 ·rw [if_neg hb] at hn
  simp only [List.cons_append,List.nil_append,List.nodup_cons,List.mem_cons,Vn,or_false,not_or,List.nodup_nil,and_true,not_false_eq_true] at hn
  simp only [ne_eq]
  refine ⟨⟨?_,?_,?_,?_,?_⟩,⟨?_,?_,?_,?_⟩,⟨?_,?_,?_⟩,⟨?_,?_⟩,?_,?_,?_,?_,?_,?_⟩<;>simp_all [eq_comm]
end
theorem sub_new {z:Lay} {L:List (Po×Pt)} {W w:World} {c:Cg} {en:List En} {es:List Ent} {xs:List Int} (h:Msd W w c z L en es xs) {z':Lay} {L':List (Po×Pt)} (hs:∀k∈z'.all L',k∈z.all L∨w.heap.size≤k):∀k∈z'.all L',W.heap.size≤k:=fun k hk=>by
 rcases hs k hk with h1|h1
 ·exact h.new k h1
 ·exact Nat.le_trans h.chg.size h1
section
variable {W w w':World} {c:Cg} {z:Lay} {L:List (Po×Pt)} {en:List En} {es:List Ent} {xs:List Int} (h:Msd W w c z L en es xs)
include h
theorem Msd.port {i:Nat} {y y':Po×Pt} (hy:L[i]? =some y) {l:List Nat} (hc:Chg l w w') (hl:∀k∈l,k=z.po∨k∈y.1.foot z.po)
 (hp:w'.heap[z.po]? =some (.cells (sq penc (L.set i y') []) 162 (0,0))) (hok:PortOk W w' z.po c.se c.wa y') (hf:∀k∈y'.1.foot z.po,k∈y.1.foot z.po∨w.heap.size≤k) (hn:(y'.1.foot z.po).Nodup):
 MTo W w c z L z (L.set i y') en es xs w':=by
 have n6:=h.ne6
 have hown:=h.own hy
 have hold:=h.old
 have hla:∀k∈l,k∈z.all L:=by
  intro k hk
  rcases hl k hk with h1|h1
  ·exact Lay.inB (Lay.beB (by simp [h1]))
  ·exact (hown k h1).2.2
 have hw:=h.inW hla
 have nb:∀k,k∈z.base→k≠z.po→k∉l:=by
  intro k hb hp hm
  rcases hl k hm with h1|h1
  ·exact hp h1
  ·exact (hown k h1).1 hb
 have e7:z.be∉l:=nb _ (Lay.beB (by simp)) n6.2.2.2.2.2.2.2.2.1
 obtain ⟨hi1,hi2⟩:=Vg hy
 have hset:∀j y1,(L.set i y')[j]? =some y1→(j=i∧y1=y')∨(j≠i∧L[j]? =some y1):=by
  intro j y1 hj
  rw [List.getElem?_set] at hj
  split at hj
  ·rename_i e
   exact .inl ⟨e.symm,(Option.some.inj hj).symm⟩
  ·rename_i e
   exact .inr ⟨fun e'=>e e'.symm,hj⟩
 have hmem:∀k∈z.all (L.set i y'),k∈z.all L∨w.heap.size≤k:=by
  intro k hk
  unfold Lay.all at hk
  rw [List.mem_append,Qec] at hk
  rcases hk with hk|⟨y1,hy1,hk⟩
  ·exact .inl (Lay.inB hk)
  ·obtain ⟨j,hj⟩:=List.getElem?_of_mem hy1
   rcases hset j y1 hj with ⟨_,rfl⟩|⟨_,h2⟩
   ·rcases hf k hk with h3|h3
    ·exact .inl (hown k h3).2.2
    ·exact .inr h3
   ·exact .inl (List.mem_append_right _ (Qec.2 ⟨y1,List.mem_of_getElem? h2,hk⟩))
 have hfo:∀j y1,L[j]? =some y1→j≠i→∀k∈y1.1.foot z.po,k∉l:=by
  intro j y1 hj hji k hk hm
  rcases hl k hm with h1|h1
  ·exact (h.own hj k hk).1 (Lay.beB (by simp [h1]))
  ·exact (hown k h1).2.1 j y1 hj hji hk
 refine ⟨⟨h.chg.trans' hc (fun k hk=>.inr (hw k hk)),hc.keep h.sys (nb _ (Lay.beB (by simp)) n6.1.2.2.2.1),h.six,⟨h.mem.1.trans' hc (fun k hk=>.inr (hw k hk)),h.mem.2.1.keep hc (nb _ (Lay.beB (by simp)) n6.2.1.2.2.1) e7,h.mem.2.2.1.keep hc (nb _ (Lay.beB (by simp)) n6.2.2.1.2.1) (nb _ (Lay.beB (by simp)) n6.2.2.2.1.1),h.mem.2.2.2⟩,hp,by rw [List.length_set];exact h.cores,hc.keep h.ents (nb _ (Lay.beB (by simp)) (Ne.symm n6.2.2.2.2.1)),h.lines,?_,?_,sub_new h hmem⟩,hc.mono (fun k hk=>.inl (hla k hk)),hmem⟩
 ·intro y1 hy1
  obtain ⟨j,hj⟩:=List.getElem?_of_mem hy1
  rcases hset j y1 hj with ⟨_,rfl⟩|⟨hji,h2⟩
  ·exact hok
  ·exact (h.ok y1 (List.mem_of_getElem? h2)).keep hc hw (hfo j y1 h2 hji)
 ·unfold Lay.all
  rw [List.nodup_append]
  refine ⟨h.nodupB,nodup_feet ?_ ?_,?_⟩
  ·intro y1 hy1
   obtain ⟨j,hj⟩:=List.getElem?_of_mem hy1
   rcases hset j y1 hj with ⟨_,rfl⟩|⟨_,h2⟩
   ·exact hn
   ·exact h.foot1 (List.mem_of_getElem? h2)
  ·intro a b ya yb hab ha hb k hka hkb
   rcases hset a ya ha with ⟨ea,rfl⟩|⟨ea,ha2⟩
   ·rcases hset b yb hb with ⟨eb,_⟩|⟨eb,hb2⟩
    ·omega
    ·rcases hf k hka with h3|h3
     ·exact (hown k h3).2.1 b yb hb2 eb hkb
     ·have:=hold k (h.own hb2 k hkb).2.2
      omega
   ·rcases hset b yb hb with ⟨eb,rfl⟩|⟨eb,hb2⟩
    ·rcases hf k hkb with h3|h3
     ·exact (hown k h3).2.1 a ya ha2 ea hka
     ·have:=hold k (h.own ha2 k hka).2.2
      omega
    ·exact (h.own ha2 k hka).2.1 b yb hb2 (Ne.symm hab) hkb
  ·intro k hkb k' hk' e
   subst e
   obtain ⟨y1,hy1,hk1⟩:=Qec.1 hk'
   obtain ⟨j,hj⟩:=List.getElem?_of_mem hy1
   rcases hset j y1 hj with ⟨_,rfl⟩|⟨_,h2⟩
   ·rcases hf k hk1 with h3|h3
    ·exact (hown k h3).1 hkb
    ·have:=hold k (Lay.inB hkb)
     omega
   ·exact (h.own h2 k hk1).1 hkb
end
section
variable {W w w':World} {c:Cg} {z:Lay} {L:List (Po×Pt)} {en:List En} {es:List Ent} {xs:List Int} (h:Msd W w c z L en es xs)
include h
theorem Msd.okB {l:List Nat} (hc:Chg l w w') (hl:∀k∈l,k∈z.base∨w.heap.size≤k):∀y∈L,PortOk W w' z.po c.se c.wa y:=by
 intro y hy
 obtain ⟨j,hj⟩:=List.getElem?_of_mem hy
 refine (h.ok y hy).keep hc ?_ ?_
 ·intro k hk
  rcases hl k hk with h1|h1
  ·exact h.new k (Lay.inB h1)
  ·exact Nat.le_trans h.chg.size h1
 ·intro k hk hm
  rcases hl k hm with h1|h1
  ·exact (h.own hj k hk).1 h1
  ·have:=h.old k (h.own hj k hk).2.2
   omega
theorem Msd.memory {es':List Ent} {xs':List Int} {be':Nat} (hs:Sys W w' z.q be' z.g z.b c.li c.vo c.qu es' xs') (hc:Chg [z.q,z.be,z.g,z.b] w w') (hb:be'=z.be∨w.heap.size≤be'):
 MTo W w c z L {z with be:=be'} L en es' xs' w':=by
 have n6:=h.ne6
 have hold:=h.old
 have hl:∀k∈[z.q,z.be,z.g,z.b],k∈z.base:=by
  intro k hk
  simp only [List.mem_cons,Vn,or_false] at hk
  exact Lay.beB (by rcases hk with h|h|h|h<;>simp [h])
 have hla:∀k∈[z.q,z.be,z.g,z.b],k∈z.all L:=fun k hk=>Lay.inB (hl k hk)
 have hnb:∀k∈({z with be:=be'}:Lay).base,k∈z.base∨w.heap.size≤k:=by
  intro k hk
  unfold Lay.base at hk
  simp only [List.mem_append,List.mem_cons,Vn,or_false,Yd] at hk
  rcases hk with (h1|h1|h1|h1|h1|h1)|h1
  ·exact .inl (Lay.beB (by simp [h1]))
  ·exact .inl (Lay.beB (by simp [h1]))
  ·exact .inl (Lay.beB (by simp [h1]))
  ·exact .inl (Lay.beB (by simp [h1]))
  ·exact .inl (Lay.beB (by simp [h1]))
  ·exact .inl (Lay.beB (by simp [h1]))
  ·rcases hb with h2|h2
   ·exact .inl (Lay.beB (by simp [h1.1,h2]))
   ·exact .inr (by rw [h1.1];exact h2)
 have hmem:∀k∈({z with be:=be'}:Lay).all L,k∈z.all L∨w.heap.size≤k:=by
  intro k hk
  unfold Lay.all at hk ⊢
  rw [List.mem_append] at hk
  rcases hk with hk|hk
  ·rcases hnb k hk with h1|h1
   ·exact .inl (List.mem_append_left _ h1)
   ·exact .inr h1
  ·exact .inl (List.mem_append_right _ hk)
 have e6:∀k,k∈[z.sy,z.po,z.en]→k∉[z.q,z.be,z.g,z.b]:=by
  intro k hk
  simp only [List.mem_cons,Vn,or_false] at hk ⊢
  rcases hk with rfl|rfl|rfl
  ·simp only [not_or];exact ⟨n6.1.1,Ne.symm n6.2.2.2.2.2.1,n6.1.2.1,n6.1.2.2.1⟩
  ·simp only [not_or];exact ⟨Ne.symm n6.2.1.2.2.1,Ne.symm n6.2.2.2.2.2.2.2.2.1,Ne.symm n6.2.2.1.2.1,Ne.symm n6.2.2.2.1.1⟩
  ·simp only [not_or];exact ⟨Ne.symm n6.2.1.2.2.2,Ne.symm n6.2.2.2.2.2.2.2.2.2,Ne.symm n6.2.2.1.2.2,Ne.symm n6.2.2.2.1.2⟩
 refine ⟨⟨hs.1,hc.keep h.sys (e6 _ (by simp)),h.six,hs,hc.keep h.ports (e6 _ (by simp)),h.cores,hc.keep h.ents (e6 _ (by simp)),h.lines,h.okB hc (fun k hk=>.inl (hl k hk)),?_,sub_new h hmem⟩,hc.mono (fun k hk=>.inl (hla k hk)),hmem⟩
 have hn:=h.apart
 unfold Lay.all at hn ⊢
 rw [List.nodup_append] at hn ⊢
 refine ⟨?_,hn.2.1,?_⟩
 ·have hz:=hn.1
  have hlt:∀k,k∈z.base→k<w.heap.size:=fun k hk=>hold k (Lay.inB hk)
  unfold Lay.base at hz ⊢
  rw [List.nodup_append] at hz ⊢
  refine ⟨hz.1,?_,?_⟩
  ·unfold opt;split<;>simp
  ·intro a ha b hb' e
   subst e
   obtain ⟨h1,h2⟩:=Yd.1 hb'
   rcases hb with h3|h3
   ·exact hz.2.2 a ha a (Yd.2 ⟨by rw [h1];exact h3,by rw [←h3];exact h2⟩) rfl
   ·have:=hlt a (List.mem_append_left _ ha)
    have h4:a=be':=h1
    omega
 ·intro k hk k' hk' e
  subst e
  rcases hnb k hk with h1|h1
  ·exact hn.2.2 k h1 k hk' rfl
  ·have:=hold k (List.mem_append_right _ hk')
   omega
theorem Msd.other {ks':List Int} {en':List En} {k:Nat} (hk:k=z.sy∨k=z.en) (hc:Chg [k] w w') (h1:w'.heap[z.sy]? =some (.cells (({z with ks:=ks'}:Lay).enc c).toArray 103 (0,0))) (h2:ks'.length=6)
 (h3:w'.heap[z.en]? =some (.cells (sq En.enc en' []) 107 (0,0))) (h4:en'.length=c.li):MTo W w c z L {z with ks:=ks'} L en' es xs w':=by
 have n6:=h.ne6
 have hl:∀x∈[k],x∈z.base:=by
  intro x hx
  rw [List.mem_singleton] at hx
  exact Lay.beB (by rcases hk with h|h<;>simp [hx,h])
 have hla:∀x∈[k],x∈z.all L:=fun x hx=>Lay.inB (hl x hx)
 have hw:=h.inW hla
 have e:∀x,x∈[z.q,z.be,z.g,z.b,z.po]→x∉[k]:=by
  intro x hx
  simp only [List.mem_cons,Vn,or_false] at hx ⊢
  rcases hk with rfl|rfl
  ·rcases hx with rfl|rfl|rfl|rfl|rfl
   ·exact Ne.symm n6.1.1
   ·exact n6.2.2.2.2.2.1
   ·exact Ne.symm n6.1.2.1
   ·exact Ne.symm n6.1.2.2.1
   ·exact Ne.symm n6.1.2.2.2.1
  ·rcases hx with rfl|rfl|rfl|rfl|rfl
   ·exact n6.2.1.2.2.2
   ·exact n6.2.2.2.2.2.2.2.2.2
   ·exact n6.2.2.1.2.2
   ·exact n6.2.2.2.1.2
   ·exact n6.2.2.2.2.1
 have hcw:=h.chg.trans' hc (fun x hx=>.inr (hw x hx))
 exact ⟨⟨hcw,h1,h2,⟨hcw,h.mem.2.1.keep hc (e _ (by simp)) (e _ (by simp)),h.mem.2.2.1.keep hc (e _ (by simp)) (e _ (by simp)),h.mem.2.2.2⟩,hc.keep h.ports (e _ (by simp)),h.cores,h3,h4,h.okB hc (fun x hx=>.inl (hl x hx)),h.apart,h.new⟩,hc.mono (fun x hx=>.inl (hla x hx)),fun x hx=>.inl hx⟩
end
end
section
theorem sq_same {α:Type} {enc:α→List Value} {xs:List α} {i:Nat} {a b:α} (h:xs[i]? =some a) (he:enc b=enc a):sq enc (xs.set i b) []=sq enc xs []:=by
 have hm:cat enc (xs.set i b)=cat enc xs:=by
  unfold cat
  rw [List.map_set,he]
  congr 1
  apply List.ext_getElem?
  intro j
  rw [List.getElem?_set]
  split
  ·rename_i e
   subst e
   simp [h]
   exact (Vg h).1
  ·rfl
 unfold sq
 rw [hm]
theorem Qbv {po:Nat} {p:Po}:(p.foot po).Nodup↔(p.g≠p.a∧p.g≠p.b∧p.a≠p.b)∧(p.ub≠po→p.g≠p.ub∧p.a≠p.ub∧p.b≠p.ub)∧(p.nb≠po→p.g≠p.nb∧p.a≠p.nb∧p.b≠p.nb)∧(p.db≠po→p.g≠p.db∧p.a≠p.db∧p.b≠p.db)∧(p.ub≠po→p.nb≠po→p.ub≠p.nb)∧(p.ub≠po→p.db≠po→p.ub≠p.db)∧(p.nb≠po→p.db≠po→p.nb≠p.db):=by
 unfold Po.foot opt
 by_cases b1:p.ub=po<;>by_cases b2:p.nb=po<;>by_cases b3:p.db=po<;>simp [b1,b2,b3]<;>omega
section
variable {W w w':World} {c:Cg} {z:Lay} {L:List (Po×Pt)} {en:List En} {es:List Ent} {xs:List Int} (h:Msd W w c z L en es xs)
include h
theorem Msd.agent {i:Nat} {p:Po} {x:Pt} {s:Sta} (hy:L[i]? =some (p,x)) (ha:Agt W w' p.g p.a p.b c.se c.wa s) (hc:Chg [p.a,p.b] w w'):MTo W w c z L z (L.set i (p,{x with s:=s})) en es xs w':=by
 have hk:=h.ok _ (List.mem_of_getElem? hy)
 have hown:=h.own hy
 have hl:∀k∈[p.a,p.b],k∈p.foot z.po:=by
  intro k hk
  simp only [List.mem_cons,Vn,or_false] at hk
  unfold Po.foot
  rcases hk with rfl|rfl<;>simp
 have hfn:=h.foot1 (List.mem_of_getElem? hy)
 have hpo:z.po∉[p.a,p.b]:=fun hm=>(hown _ (hl _ hm)).1 (Lay.beB (by simp))
 have hq:∀k,k∈opt z.po p.ub++(opt z.po p.nb++opt z.po p.db)→k∉[p.a,p.b]:=by
  intro k hk hm
  unfold Po.foot at hfn
  rw [List.nodup_append] at hfn
  refine hfn.2.2 k ?_ k hk rfl
  simp only [List.mem_cons,Vn,or_false] at hm ⊢
  rcases hm with h1|h1<;>simp [h1]
 refine h.port hy hc (fun k hk=>.inr (hl k hk)) ?_ ⟨ha,hk.2.1.keepN hc ?_,hk.2.2.1.keepN hc ?_,hk.2.2.2.keepN hc ?_⟩ (fun k hk=>.inl hk) hfn
 ·rw [sq_same hy (by rfl)]
  exact hc.keep h.ports hpo
 ·intro hb;exact hq _ (by simp [Yd,hb])
 ·intro hb;exact hq _ (by simp [Yd,hb])
 ·intro hb;exact hq _ (by simp [Yd,hb])
theorem Msd.queue_up {i:Nat} {p:Po} {x:Pt} {ys:List Ms} {v:Value} {e:Ending} (hy:L[i]? =some (p,x)) (hq:QueTo 162 (sq penc L []) z.po (i*7+1) p.ub w ys v e w'):
 e=.returned v∧∃p',p'.g=p.g∧MTo W w c z L z (L.set i (p',{x with up:=ys})) en es xs w':=by
 obtain ⟨he,be',A',cap',h1,h2,hc,hb⟩:=hq
 have hk:=h.ok _ (List.mem_of_getElem? hy)
 have hown:=h.own hy
 have hfn:=h.foot1 (List.mem_of_getElem? hy)
 have hnew:∀k∈p.foot z.po,k<w.heap.size:=fun k hk'=>h.old k (hown k hk').2.2
 have hin:∀k,(k=p.g∨k=p.a∨k=p.b∨(k=p.ub∧p.ub≠z.po)∨(k=p.nb∧p.nb≠z.po)∨(k=p.db∧p.db≠z.po))→k∈p.foot z.po:=by
  intro k hk
  unfold Po.foot
  simp only [List.mem_append,List.mem_cons,Vn,or_false,Yd]
  rcases hk with h|h|h|h|h|h<;>simp [h]
 have hpo:∀k∈p.foot z.po,k≠z.po:=fun k hk e=>(hown k hk).1 (Lay.beB (by simp [e]))
 obtain ⟨⟨d1,d2,d3⟩,du,dn,dd,dun,dud,dnd⟩:=Qbv.1 hfn
 have gabl:∀k,(k=p.g∨k=p.a∨k=p.b)→k∉[z.po,p.ub]:=by
  intro k hk
  have h3:=hpo k (hin k (by rcases hk with h|h|h<;>simp [h]))
  simp only [List.mem_cons,Vn,or_false,not_or]
  refine ⟨h3,fun e=>?_⟩
  have h4:p.ub≠z.po:=fun e2=>h3 (e.trans e2)
  have:=du h4
  rcases hk with rfl|rfl|rfl
  ·exact this.1 e
  ·exact this.2.1 e
  ·exact this.2.2 e
 have hw:∀k∈[z.po,p.ub],W.heap.size≤k:=by
  intro k hk
  refine h.new k ?_
  simp only [List.mem_cons,Vn,or_false] at hk
  rcases hk with rfl|rfl
  ·exact Lay.inB (Lay.beB (by simp))
  ·by_cases hb:p.ub=z.po
   ·rw [hb];exact Lay.inB (Lay.beB (by simp))
   ·exact (hown _ (hin _ (by simp [hb]))).2.2
 have hbl:be'=p.ub∨(be'∉p.foot z.po∧be'≠z.po):=by
  rcases hb with h3|h3
  ·exact .inl h3
  ·refine .inr ⟨fun hm=>?_,fun e=>?_⟩
   ·have:=hnew _ hm;omega
   ·have:=h.oldp.lt;omega
 have o_n:p.nb≠z.po→p.nb∉[z.po,p.ub]:=by
  intro hb
  simp only [List.mem_cons,Vn,or_false,not_or]
  refine ⟨hb,fun e=>?_⟩
  have h4:p.ub≠z.po:=fun e2=>hb (e.trans e2)
  exact dun h4 hb e.symm
 have o_d:p.db≠z.po→p.db∉[z.po,p.ub]:=by
  intro hb
  simp only [List.mem_cons,Vn,or_false,not_or]
  refine ⟨hb,fun e=>?_⟩
  have h4:p.ub≠z.po:=fun e2=>hb (e.trans e2)
  exact dud h4 hb e.symm
 refine ⟨he,{p with ub:=be',uA:=A',uc:=cap'},rfl,h.port hy hc ?_ ?_ ⟨hk.1.keepL hc hw (gabl _ (by simp)) (gabl _ (by simp)) (gabl _ (by simp)),h2,hk.2.2.1.keepN hc o_n,hk.2.2.2.keepN hc o_d⟩ ?_ ?_⟩
 ·intro k hk
  simp only [List.mem_cons,Vn,or_false] at hk
  rcases hk with rfl|rfl
  ·exact .inl rfl
  ·by_cases hb:p.ub=z.po
   ·exact .inl hb
   ·exact .inr (hin _ (by simp [hb]))
 ·rw [sq_put (b:=({p with ub:=be',uA:=A',uc:=cap'},{x with up:=ys})) Qhn hy (by decide) (by rfl)] at h1
  exact h1
 ·intro k hk
  have hk2:(k=p.g∨k=p.a∨k=p.b)∨(k=be'∧be'≠z.po)∨(k=p.nb∧p.nb≠z.po)∨(k=p.db∧p.db≠z.po):=by
   unfold Po.foot at hk
   simp only [List.mem_append,List.mem_cons,Vn,or_false,Yd] at hk
   rcases hk with h|h|h|h<;>simp [h]
  rcases hk2 with h3|h3|h3|h3
  ·exact .inl (hin k (by rcases h3 with h|h|h<;>simp [h]))
  ·rcases hb with h4|h4
   ·exact .inl (hin k (by rw [←h4];simp [h3]))
   ·exact .inr (by rw [h3.1];exact h4)
  ·exact .inl (hin k (by simp [h3]))
  ·exact .inl (hin k (by simp [h3]))
 ·rcases hbl with h3|⟨h3,h4⟩
  ·subst h3;exact hfn
  ·have i1:∀k,(k=p.g∨k=p.a∨k=p.b∨(k=p.ub∧p.ub≠z.po)∨(k=p.nb∧p.nb≠z.po)∨(k=p.db∧p.db≠z.po))→k≠be':=fun k hk e=>h3 (e▸hin k hk)
   exact Tz29
theorem Msd.queue_an {i:Nat} {p:Po} {x:Pt} {ys:List Ms} {v:Value} {e:Ending} (hy:L[i]? =some (p,x)) (hq:QueTo 162 (sq penc L []) z.po (i*7+3) p.nb w ys v e w'):
 e=.returned v∧∃p',p'.g=p.g∧MTo W w c z L z (L.set i (p',{x with an:=ys})) en es xs w':=by
 obtain ⟨he,be',A',cap',h1,h2,hc,hb⟩:=hq
 have hk:=h.ok _ (List.mem_of_getElem? hy)
 have hown:=h.own hy
 have hfn:=h.foot1 (List.mem_of_getElem? hy)
 have hnew:∀k∈p.foot z.po,k<w.heap.size:=fun k hk'=>h.old k (hown k hk').2.2
 have hin:∀k,(k=p.g∨k=p.a∨k=p.b∨(k=p.ub∧p.ub≠z.po)∨(k=p.nb∧p.nb≠z.po)∨(k=p.db∧p.db≠z.po))→k∈p.foot z.po:=by
  intro k hk
  unfold Po.foot
  simp only [List.mem_append,List.mem_cons,Vn,or_false,Yd]
  rcases hk with h|h|h|h|h|h<;>simp [h]
 have hpo:∀k∈p.foot z.po,k≠z.po:=fun k hk e=>(hown k hk).1 (Lay.beB (by simp [e]))
 obtain ⟨⟨d1,d2,d3⟩,du,dn,dd,dun,dud,dnd⟩:=Qbv.1 hfn
 have gabl:∀k,(k=p.g∨k=p.a∨k=p.b)→k∉[z.po,p.nb]:=by
  intro k hk
  have h3:=hpo k (hin k (by rcases hk with h|h|h<;>simp [h]))
  simp only [List.mem_cons,Vn,or_false,not_or]
  refine ⟨h3,fun e=>?_⟩
  have h4:p.nb≠z.po:=fun e2=>h3 (e.trans e2)
  have:=dn h4
  rcases hk with rfl|rfl|rfl
  ·exact this.1 e
  ·exact this.2.1 e
  ·exact this.2.2 e
 have hw:∀k∈[z.po,p.nb],W.heap.size≤k:=by
  intro k hk
  refine h.new k ?_
  simp only [List.mem_cons,Vn,or_false] at hk
  rcases hk with rfl|rfl
  ·exact Lay.inB (Lay.beB (by simp))
  ·by_cases hb:p.nb=z.po
   ·rw [hb];exact Lay.inB (Lay.beB (by simp))
   ·exact (hown _ (hin _ (by simp [hb]))).2.2
 have hbl:be'=p.nb∨(be'∉p.foot z.po∧be'≠z.po):=by
  rcases hb with h3|h3
  ·exact .inl h3
  ·refine .inr ⟨fun hm=>?_,fun e=>?_⟩
   ·have:=hnew _ hm;omega
   ·have:=h.oldp.lt;omega
 have o_u:p.ub≠z.po→p.ub∉[z.po,p.nb]:=by
  intro hb
  simp only [List.mem_cons,Vn,or_false,not_or]
  refine ⟨hb,fun e=>?_⟩
  have h4:p.nb≠z.po:=fun e2=>hb (e.trans e2)
  exact dun hb h4 e
 have o_d:p.db≠z.po→p.db∉[z.po,p.nb]:=by
  intro hb
  simp only [List.mem_cons,Vn,or_false,not_or]
  refine ⟨hb,fun e=>?_⟩
  have h4:p.nb≠z.po:=fun e2=>hb (e.trans e2)
  exact dnd h4 hb e.symm
 refine ⟨he,{p with nb:=be',nA:=A',nc:=cap'},rfl,h.port hy hc ?_ ?_ ⟨hk.1.keepL hc hw (gabl _ (by simp)) (gabl _ (by simp)) (gabl _ (by simp)),hk.2.1.keepN hc o_u,h2,hk.2.2.2.keepN hc o_d⟩ ?_ ?_⟩
 ·intro k hk
  simp only [List.mem_cons,Vn,or_false] at hk
  rcases hk with rfl|rfl
  ·exact .inl rfl
  ·by_cases hb:p.nb=z.po
   ·exact .inl hb
   ·exact .inr (hin _ (by simp [hb]))
 ·rw [sq_put (b:=({p with nb:=be',nA:=A',nc:=cap'},{x with an:=ys})) Qhn hy (by decide) (by rfl)] at h1
  exact h1
 ·intro k hk
  have hk2:(k=p.g∨k=p.a∨k=p.b)∨(k=p.ub∧p.ub≠z.po)∨(k=be'∧be'≠z.po)∨(k=p.db∧p.db≠z.po):=by
   unfold Po.foot at hk
   simp only [List.mem_append,List.mem_cons,Vn,or_false,Yd] at hk
   rcases hk with h|h|h|h<;>simp [h]
  rcases hk2 with h3|h3|h3|h3
  ·exact .inl (hin k (by rcases h3 with h|h|h<;>simp [h]))
  ·exact .inl (hin k (by simp [h3]))
  ·rcases hb with h4|h4
   ·exact .inl (hin k (by rw [←h4];simp [h3]))
   ·exact .inr (by rw [h3.1];exact h4)
  ·exact .inl (hin k (by simp [h3]))
 ·rcases hbl with h3|⟨h3,h4⟩
  ·subst h3;exact hfn
  ·have i1:∀k,(k=p.g∨k=p.a∨k=p.b∨(k=p.ub∧p.ub≠z.po)∨(k=p.nb∧p.nb≠z.po)∨(k=p.db∧p.db≠z.po))→k≠be':=fun k hk e=>h3 (e▸hin k hk)
   exact Tz29
theorem Msd.queue_dn {i:Nat} {p:Po} {x:Pt} {ys:List Ms} {v:Value} {e:Ending} (hy:L[i]? =some (p,x)) (hq:QueTo 162 (sq penc L []) z.po (i*7+5) p.db w ys v e w'):
 e=.returned v∧∃p',p'.g=p.g∧MTo W w c z L z (L.set i (p',{x with dn:=ys})) en es xs w':=by
 obtain ⟨he,be',A',cap',h1,h2,hc,hb⟩:=hq
 have hk:=h.ok _ (List.mem_of_getElem? hy)
 have hown:=h.own hy
 have hfn:=h.foot1 (List.mem_of_getElem? hy)
 have hnew:∀k∈p.foot z.po,k<w.heap.size:=fun k hk'=>h.old k (hown k hk').2.2
 have hin:∀k,(k=p.g∨k=p.a∨k=p.b∨(k=p.ub∧p.ub≠z.po)∨(k=p.nb∧p.nb≠z.po)∨(k=p.db∧p.db≠z.po))→k∈p.foot z.po:=by
  intro k hk
  unfold Po.foot
  simp only [List.mem_append,List.mem_cons,Vn,or_false,Yd]
  rcases hk with h|h|h|h|h|h<;>simp [h]
 have hpo:∀k∈p.foot z.po,k≠z.po:=fun k hk e=>(hown k hk).1 (Lay.beB (by simp [e]))
 obtain ⟨⟨d1,d2,d3⟩,du,dn,dd,dun,dud,dnd⟩:=Qbv.1 hfn
 have gabl:∀k,(k=p.g∨k=p.a∨k=p.b)→k∉[z.po,p.db]:=by
  intro k hk
  have h3:=hpo k (hin k (by rcases hk with h|h|h<;>simp [h]))
  simp only [List.mem_cons,Vn,or_false,not_or]
  refine ⟨h3,fun e=>?_⟩
  have h4:p.db≠z.po:=fun e2=>h3 (e.trans e2)
  have:=dd h4
  rcases hk with rfl|rfl|rfl
  ·exact this.1 e
  ·exact this.2.1 e
  ·exact this.2.2 e
 have hw:∀k∈[z.po,p.db],W.heap.size≤k:=by
  intro k hk
  refine h.new k ?_
  simp only [List.mem_cons,Vn,or_false] at hk
  rcases hk with rfl|rfl
  ·exact Lay.inB (Lay.beB (by simp))
  ·by_cases hb:p.db=z.po
   ·rw [hb];exact Lay.inB (Lay.beB (by simp))
   ·exact (hown _ (hin _ (by simp [hb]))).2.2
 have hbl:be'=p.db∨(be'∉p.foot z.po∧be'≠z.po):=by
  rcases hb with h3|h3
  ·exact .inl h3
  ·refine .inr ⟨fun hm=>?_,fun e=>?_⟩
   ·have:=hnew _ hm;omega
   ·have:=h.oldp.lt;omega
 have o_u:p.ub≠z.po→p.ub∉[z.po,p.db]:=by
  intro hb
  simp only [List.mem_cons,Vn,or_false,not_or]
  refine ⟨hb,fun e=>?_⟩
  have h4:p.db≠z.po:=fun e2=>hb (e.trans e2)
  exact dud hb h4 e
 have o_n:p.nb≠z.po→p.nb∉[z.po,p.db]:=by
  intro hb
  simp only [List.mem_cons,Vn,or_false,not_or]
  refine ⟨hb,fun e=>?_⟩
  have h4:p.db≠z.po:=fun e2=>hb (e.trans e2)
  exact dnd hb h4 e
 refine ⟨he,{p with db:=be',dA:=A',dc:=cap'},rfl,h.port hy hc ?_ ?_ ⟨hk.1.keepL hc hw (gabl _ (by simp)) (gabl _ (by simp)) (gabl _ (by simp)),hk.2.1.keepN hc o_u,hk.2.2.1.keepN hc o_n,h2⟩ ?_ ?_⟩
 ·intro k hk
  simp only [List.mem_cons,Vn,or_false] at hk
  rcases hk with rfl|rfl
  ·exact .inl rfl
  ·by_cases hb:p.db=z.po
   ·exact .inl hb
   ·exact .inr (hin _ (by simp [hb]))
 ·rw [sq_put (b:=({p with db:=be',dA:=A',dc:=cap'},{x with dn:=ys})) Qhn hy (by decide) (by rfl)] at h1
  exact h1
 ·intro k hk
  have hk2:(k=p.g∨k=p.a∨k=p.b)∨(k=p.ub∧p.ub≠z.po)∨(k=p.nb∧p.nb≠z.po)∨(k=be'∧be'≠z.po):=by
   unfold Po.foot at hk
   simp only [List.mem_append,List.mem_cons,Vn,or_false,Yd] at hk
   rcases hk with h|h|h|h<;>simp [h]
  rcases hk2 with h3|h3|h3|h3
  ·exact .inl (hin k (by rcases h3 with h|h|h<;>simp [h]))
  ·exact .inl (hin k (by simp [h3]))
  ·exact .inl (hin k (by simp [h3]))
  ·rcases hb with h4|h4
   ·exact .inl (hin k (by rw [←h4];simp [h3]))
   ·exact .inr (by rw [h3.1];exact h4)
 ·rcases hbl with h3|⟨h3,h4⟩
  ·subst h3;exact hfn
  ·have i1:∀k,(k=p.g∨k=p.a∨k=p.b∨(k=p.ub∧p.ub≠z.po)∨(k=p.nb∧p.nb≠z.po)∨(k=p.db∧p.db≠z.po))→k≠be':=fun k hk e=>h3 (e▸hin k hk)
   exact Tz29
end
end
section
theorem J5 (z:Lay) (c:Cg):(z.enc c).toArray[7]? =some (.pointer (some ⟨z.q,0,none⟩)):=rfl
theorem Y0 (z:Lay) (c:Cg):(z.enc c).toArray[8]? =some (.slice (some ⟨z.po,0,none⟩) c.co c.co):=rfl
theorem Y1 (z:Lay) (c:Cg):(z.enc c).toArray[9]? =some (.slice (some ⟨z.en,0,none⟩) c.li c.li):=rfl
attribute [local go_sem ↓] YL Y0 Y1 J5
attribute [local simp] YL
def inB (k:Int) (n:Nat):Bool:=decide (0≤k)&&decide (k<n)
section
variable {W:World} {c:Cg} {z:Lay} {L:List (Po×Pt)} {en:List En} {es:List Ent} {xs:List Int}
theorem Qdl (k:Int) (w:World) (h:Msd W w c z L en es xs) (hk:inB k c.co=false):Calls Tryz.prog 93 #[.pointer (some ⟨z.sy,0,none⟩),.int .i64 k] w fun e w'=>e=.returned (.pointer none)∧w=w':=by
 have rS:=h.sys
 have HK:=Vh hk
 clear h hk
 by_cases h0:k<0
 ·have t1:decide (k<0)=true:=by simpa using h0
  go_enter Tryz.func93,Tryz.ntmps93
  try dsimp only [List.append]
  exact Tz34
 ·have t1:decide (k<0)=false:=by simpa using h0
  have t2:decide ((c.co:Int)≤k)=true:=by have:=HK.out;unfold inB at this;simp at this ⊢;omega
  clear HK h0
  go_enter Tryz.func93,Tryz.ntmps93
  try dsimp only [List.append]
  exact Tz34
theorem Y2 (k:Nat) (w:World) (h:Msd W w c z L en es xs) (hk:k<c.co):Calls Tryz.prog 93 #[.pointer (some ⟨z.sy,0,none⟩),.int .i64 k] w fun e w'=>e=.returned (.pointer (some ⟨z.po,k*7,none⟩))∧w=w':=by
 have rS:=h.sys
 have t1:decide ((k:Int)<0)=false:=by simp
 have t2:decide ((c.co:Int)≤(k:Int))=false:=by simp;omega
 have g0:(0:Int)≤(k:Int):=by omega
 have g1:(k:Int)<(c.co:Int):=by omega
 clear h hk
 go_enter Tryz.func93,Tryz.ntmps93
 try dsimp only [List.append]
 exact Tz34
theorem isline_any (k:Int) (w:World) (h:Msd W w c z L en es xs):Calls Tryz.prog 69 #[.pointer (some ⟨z.sy,0,none⟩),.int .i64 k] w fun e w'=>e=.returned (.bool (inB k c.li))∧w=w':=by
 have rS:=h.sys
 clear h
 by_cases h0:k<0
 ·have t1:decide (0≤k)=false:=by simp;omega
  rw [show inB k c.li=false by unfold inB;rw [t1];rfl]
  clear h0
  go_enter Tryz.func69,Tryz.ntmps69
  try dsimp only [List.append]
  exact Tz34
 ·have t1:decide (0≤k)=true:=by simp;omega
  rw [show inB k c.li=decide (k<c.li) by unfold inB;rw [t1];rfl]
  clear h0
  go_enter Tryz.func69,Tryz.ntmps69
  try dsimp only [List.append]
  exact Tz34
theorem Z8 (k:Int) (v:Bool) (hv:inB k c.li=v) (w:World) (h:Msd W w c z L en es xs):Calls Tryz.prog 69 #[.pointer (some ⟨z.sy,0,none⟩),.int .i64 k] w fun e w'=>e=.returned (.bool v)∧w=w':=hv▸isline_any k w h
end
end
end Go.Proofs.YtlidfghgjjffaaaGreatDoor
