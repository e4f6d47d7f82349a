/- Texts of the walk, one behind the other: Dird Dire Dirf. No condition. -/
import Derived.Test.YtadeoflkppiflaaGreatDoorSaa
import Derived.Test.YtadeoflkppiflaaGreatDoorSac
import Derived.Test.YtadeoflkppiflaaGreatDoorSag
import Derived.BigQuiet
import Derived.Deep.QuietTactic
import Derived.Deep.RegionHeld3
import Derived.Deep.RegionWith
namespace Go.Proofs.YtadeoflkppiflaaGreatDoor
open Go.RowKit
set_option linter.unusedVariables false
set_option maxHeartbeats 1000000
set_option maxRecDepth 100000
attribute [local go_sem ↓] QA QQ QH Q8 Zc QS QC Za QN ZB Zk Qm Ql heap_alloc Qo heap_setCell Qb ZF ZM ZK ZN ZL
attribute [local go_sem] Qc Qa Qd Qj Qf Qe Qh Qi Qw ZE QZ Zy QO QG Q6 Q0 Q5 Zi Zz Q9 QM QB QI Zj Q7 Qz QP Qt Qk Qs Qr Qq Qp Qg Ze lit8 Qv ZA Zl Zm
attribute [local simp ↓] Qm Ql heap_alloc Qo heap_setCell Qb
attribute [local simp] Qc Qa Qd Qj Qf Qe Qh Qi Qw QB Qk Qs Qr Qq Qp Qg Qv
attribute [local go_sem ↓] XP XQ XO XN XS XR XM XZ
attribute [local go_sem] Xi XV Xh ZR ZT QL Xp ZZ X3 Zw QW QV QU QY QX QT QK QJ Zg Zf Xm ZW
attribute [local simp] QL Zf QW QV QU QY QX QT QK QJ Zg
attribute [local go_sem ↓] Xo ZV Xn ZU Z0
attribute [local go_sem] Xk Xj ZY Xl Qx Qy Z6
attribute [local simp] Z0 Qx Qy QI Zw
section
theorem dgetS_any (x:En) (c:Int) (m:Ms) (w:World) (h0:Old w 0):Calls Tryz.prog 205 #[.agg (ec x),.int .i64 c,.agg (msc m)] w (EnSds w (Qal x c m)):=by
 by_cases h:x.ow≠ -1∧x.ow≠c
 ·have e1:Qal x c m=Y4 x c m (bitM x.ow) 13:=by unfold Qal;rw [if_pos h]
  rw [e1]
  have t0:(x.ow !=-1)=true:=by simpa using h.1
  have t1:(x.ow !=c)=true:=by simpa using h.2
  clear e1 h
  go_enter Tryz.func205,Tryz.ntmps205
  exact Tz17
 ·have h2:(x.ow !=-1)=false∨((x.ow !=-1)=true∧(x.ow !=c)=false):=by
   by_cases a:x.ow= -1
   ·exact .inl (by simp [a])
   ·have b:x.ow=c:=Decidable.byContradiction fun b=>h ⟨a,b⟩
    exact .inr ⟨by simpa using a,by simp [b]⟩
  by_cases hs:x.sh=0#8
  ·have e1:Qal x c m=YA x c 9 m.li:=by unfold Qal;rw [if_neg h,if_pos hs]
   rw [e1]
   have t3:(x.sh==0#8)=true:=by simpa using hs
   clear e1 h hs
   rcases h2 with t0|⟨t0,t1⟩
   all_goals
    go_enter Tryz.func205,Tryz.ntmps205
    try dsimp only [List.append]
    go_wp2_with fail
    refine ZJ (w:=w) (b1:=w.heap.size) (x1:=.cells (ec (x)) 56 (0,0)) (b2:=w.heap.size+1) (x2:=.cells (msc m) 38 (0,0)) (b3:=w.heap.size+2) (x3:=.cells (ec (enZ)) 56 (0,0)) Cz1 (by simp [*]) (by simp [*]) (by simp [*]) fun w1 C1 rE rM rR=>?_
    have oE:=old rE
    have oM:=old rM
    have oR:=old rR
    have o0:=h0.chg C1
    refine (Qe7 x c 9 m.li _ o0).mono ?_
    rintro e w2 ⟨A2,n2,rfl,hs2,hA3,c2⟩
    have rR2:=c2.keep rR (by simp)
    have oR2:=old rR2
    go_wp2_with fail
    refine bodyPost_ret (v:=.tuple #[.agg (ec ((YA x c 9 m.li).1)),.slice A2 (YA x c 9 m.li).2.length n2]) ?_ (by rfl) ?_
    ·exact Xy (by rfl) _ _ (w.heap.size+2) _ (0,0) (by rfl) Cz15 _ (by rfl)
    exact Tz73
  ·have e1:Qal x c m=Yp x c m.li:=by unfold Qal;rw [if_neg h,if_neg hs]
   rw [e1]
   have t3:(x.sh==0#8)=false:=by simpa using hs
   clear e1 h hs
   rcases h2 with t0|⟨t0,t1⟩
   all_goals
    go_enter Tryz.func205,Tryz.ntmps205
    try dsimp only [List.append]
    go_wp2_with fail
    refine ZJ (w:=w) (b1:=w.heap.size) (x1:=.cells (ec (x)) 56 (0,0)) (b2:=w.heap.size+1) (x2:=.cells (msc m) 38 (0,0)) (b3:=w.heap.size+2) (x3:=.cells (ec (enZ)) 56 (0,0)) Cz1 (by simp [*]) (by simp [*]) (by simp [*]) fun w1 C1 rE rM rR=>?_
    have oE:=old rE
    have oM:=old rM
    have oR:=old rR
    have o0:=h0.chg C1
    refine (Qg3 x c m.li _ o0).mono ?_
    rintro e w2 ⟨A2,n2,rfl,hs2,hA3,c2⟩
    have rR2:=c2.keep rR (by simp)
    have oR2:=old rR2
    go_wp2_with fail
    refine bodyPost_ret (v:=.tuple #[.agg (ec ((Yp x c m.li).1)),.slice A2 (Yp x c m.li).2.length n2]) ?_ (by rfl) ?_
    ·exact Xy (by rfl) _ _ (w.heap.size+2) _ (0,0) (by rfl) Cz15 _ (by rfl)
    exact Tz73
theorem dclean_any (x:En) (c:Int) (m:Ms) (w:World) (h0:Old w 0):Calls Tryz.prog 208 #[.agg (ec x),.int .i64 c,.agg (msc m)] w (EnSds w (Qdb x c m)):=by
 rw [show Qdb x c m=Y4 x c m (bitM x.ow) 13 from rfl]
 go_enter Tryz.func208,Tryz.ntmps208
 exact Tz17
theorem dwipe_any (x:En) (c:Int) (m:Ms) (w:World) (h0:Old w 0):Calls Tryz.prog 209 #[.agg (ec x),.int .i64 c,.agg (msc m)] w (EnSds w (wipeE x c m)):=by
 rw [show wipeE x c m=Y4 x c m (XH x) 12 from rfl]
 go_enter Tryz.func209,Tryz.ntmps209
 try dsimp only [List.append]
 go_wp2_with fail
 refine XK (w:=w) (b1:=w.heap.size) (x1:=.cells (ec (x)) 56 (0,0)) (b2:=w.heap.size+1) (x2:=.cells (msc m) 38 (0,0)) (b3:=w.heap.size+2) (x3:=.cells (ec (enZ)) 56 (0,0)) Cz1 (by simp [*]) (by simp [*]) (by simp [*]) fun w1 C1 rE rM rR=>?_
 have oE:=old rE
 have oM:=old rM
 have oR:=old rR
 have o0:=h0.chg C1
 go_region_held3 (fun w'=>w'.heap[w.heap.size]? =some (.cells (ec (x)) 56 (0,0))∧w'.heap[w.heap.size+1]? =some (.cells (msc m) 38 (0,0))) (first |exact ⟨rE,rM⟩|exact ⟨c2.keep rE (by simp),c2.keep rM (by simp)⟩|exact ⟨c3.keep rE (by simp),c3.keep rM (by simp)⟩|exact ⟨c2.keep (by simp [*]) (by simp),c2.keep (by simp [*]) (by simp)⟩|exact ⟨c3.keep (by simp [*]) (by simp),c3.keep (by simp [*]) (by simp)⟩|simp [*])
  (first
   |(go_at_call 228;refine (Qaz _ _).mono ?_;rintro e w' ⟨rfl,c3⟩;(have rR3:=c3.keep rR (by simp));(have o3:=Old.chg (b:=0) Cz13 c3);(have z3:=c3.size))
   |(go_at_call 227;refine (Qej _ _ _ _ _ _ ?_).mono ?_;exact o3;rintro e w' ⟨A2,n2,rfl,hs2,hA2,c2⟩;(have hA3:∀a,A2=some a→w1.heap.size≤a.block:=(fun a ha=>Nat.le_trans z3 (hA2 a ha)));have rR2:=c2.keep rR3 (by simp)))
 all_goals
  go_wp2_with fail
  refine bodyPost_ret (v:=.tuple #[.agg (ec ((Y4 x c m (XH x) 12).1)),.slice A2 (Y4 x c m (XH x) 12).2.length n2]) ?_ (by rfl) ?_
  ·exact Xy (by rfl) _ _ (w.heap.size+2) _ (0,0) (by rfl) Cz15 _ (by rfl)
  exact Tz28
theorem dgetM_any (x:En) (c:Int) (m:Ms) (w:World) (h0:Old w 0):Calls Tryz.prog 206 #[.agg (ec x),.int .i64 c,.agg (msc m)] w (EnSds w (Qb6 x c m)):=by
 by_cases h:(XH x&&& ~~~(bitM c))=0#8
 ·have e1:Qb6 x c m=YA x c 10 m.li:=by unfold Qb6;rw [if_pos h]
  have t1:((XH x&&& ~~~(bitM c))==0#8)=true:=by simpa using h
  rw [e1]
  clear e1 h
  go_enter Tryz.func206,Tryz.ntmps206
  try dsimp only [List.append]
  go_wp2_with fail
  refine ZJ (w:=w) (b1:=w.heap.size) (x1:=.cells (ec (x)) 56 (0,0)) (b2:=w.heap.size+1) (x2:=.cells (msc m) 38 (0,0)) (b3:=w.heap.size+2) (x3:=.cells (ec (enZ)) 56 (0,0)) Cz1 (by simp [*]) (by simp [*]) (by simp [*]) fun w1 C1 rE rM rR=>?_
  have oE:=old rE
  have oM:=old rM
  have oR:=old rR
  have o0:=h0.chg C1
  refine (Qaz x w1).mono ?_
  rintro e w3 ⟨rfl,c3⟩
  have rE3:=c3.keep rE (by simp)
  have rM3:=c3.keep rM (by simp)
  have rR3:=c3.keep rR (by simp)
  have C3:=C1.trans c3
  have o3:=h0.chg C3
  clear rE rM rR oE oM oR o0 C1 c3
  have oE3:=old rE3
  have oM3:=old rM3
  have oR3:=old rR3
  go_wp2_with (go_at_call 164;refine (Ye _ _).mono ?_;rintro e w' ⟨rfl,rfl⟩)
  refine (Qe7 x c 10 m.li _ (by exact o3)).mono ?_
  rintro e w2 ⟨A2,n2,rfl,hs2,hA3,c2⟩
  have rR2:=c2.keep rR3 (by simp)
  have oR2:=old rR2
  go_wp2_with fail
  refine bodyPost_ret (v:=.tuple #[.agg (ec ((YA x c 10 m.li).1)),.slice A2 (YA x c 10 m.li).2.length n2]) ?_ (by rfl) ?_
  ·exact Xy (by rfl) _ _ (w.heap.size+2) _ (0,0) (by rfl) (by simp [rR2];done) _ (by rfl)
  exact Tz64
 ·have e1:Qb6 x c m=Y4 x c m (XH x&&& ~~~(bitM c)) 12:=by unfold Qb6;rw [if_neg h]
  have t1:((XH x&&& ~~~(bitM c))==0#8)=false:=by simpa using h
  rw [e1]
  clear e1 h
  go_enter Tryz.func206,Tryz.ntmps206
  try dsimp only [List.append]
  go_wp2_with fail
  refine ZJ (w:=w) (b1:=w.heap.size) (x1:=.cells (ec (x)) 56 (0,0)) (b2:=w.heap.size+1) (x2:=.cells (msc m) 38 (0,0)) (b3:=w.heap.size+2) (x3:=.cells (ec (enZ)) 56 (0,0)) Cz1 (by simp [*]) (by simp [*]) (by simp [*]) fun w1 C1 rE rM rR=>?_
  have oE:=old rE
  have oM:=old rM
  have oR:=old rR
  have o0:=h0.chg C1
  refine (Qaz x w1).mono ?_
  rintro e w3 ⟨rfl,c3⟩
  have rE3:=c3.keep rE (by simp)
  have rM3:=c3.keep rM (by simp)
  have rR3:=c3.keep rR (by simp)
  have C3:=C1.trans c3
  have o3:=h0.chg C3
  clear rE rM rR oE oM oR o0 C1 c3
  have oE3:=old rE3
  have oM3:=old rM3
  have oR3:=old rR3
  go_wp2_with (go_at_call 164;refine (Ye _ _).mono ?_;rintro e w' ⟨rfl,rfl⟩)
  refine (Qej x c m (XH x&&& ~~~(bitM c)) 12 _ (by exact o3)).mono ?_
  rintro e w2 ⟨A2,n2,rfl,hs2,hA3,c2⟩
  have rR2:=c2.keep rR3 (by simp)
  have oR2:=old rR2
  go_wp2_with fail
  refine bodyPost_ret (v:=.tuple #[.agg (ec ((Y4 x c m (XH x&&& ~~~(bitM c)) 12).1)),.slice A2 (Y4 x c m (XH x&&& ~~~(bitM c)) 12).2.length n2]) ?_ (by rfl) ?_
  ·exact Xy (by rfl) _ _ (w.heap.size+2) _ (0,0) (by rfl) (by simp [rR2];done) _ (by rfl)
  exact Tz64
theorem dput_any (x:En) (c:Int) (m:Ms) (w:World) (h0:Old w 0):Calls Tryz.prog 207 #[.agg (ec x),.int .i64 c,.agg (msc m)] w (EnSds w (putE x c m)):=by
 by_cases h:x.ow=c
 ·have e1:putE x c m=(Zx (ZD x m) c,Xf (bitM c) (ms4 11 m.li false false)):=by unfold putE;rw [if_pos h]
  have t1:(x.ow==c)=true:=by simpa using h
  rw [e1]
  clear e1 h
  go_enter Tryz.func207,Tryz.ntmps207
  try dsimp only [List.append]
  go_wp2_with fail
  refine ZJ (w:=w) (b1:=w.heap.size) (x1:=.cells (ec (x)) 56 (0,0)) (b2:=w.heap.size+1) (x2:=.cells (msc m) 38 (0,0)) (b3:=w.heap.size+2) (x3:=.cells (ec (enZ)) 56 (0,0)) Cz1 (by simp [*]) (by simp [*]) (by simp [*]) fun w1 C1 rE rM rR=>?_
  have oE:=old rE
  have oM:=old rM
  have oR:=old rR
  refine (Qcl x m w1).mono ?_
  rintro e w3 ⟨rfl,c3⟩
  have rE3:=c3.keep rE (by simp)
  have rM3:=c3.keep rM (by simp)
  have rR3:=c3.keep rR (by simp)
  have C3:=C1.trans c3
  clear rE rM rR oE oM oR C1 c3
  go_wp2_with fail
  refine XK (w:=w) (b1:=w.heap.size) (x1:=.cells (ec (ZD x m)) 56 (0,0)) (b2:=w.heap.size+1) (x2:=.cells (msc m) 38 (0,0)) (b3:=w.heap.size+2) (x3:=.cells (ec (enZ)) 56 (0,0)) Cz1 (by simp [*]) (by simp [*]) (by simp [*]) fun w1 C1 rE rM rR=>?_
  have oE:=old rE
  have oM:=old rM
  have oR:=old rR
  have o0:=h0.chg C1
  go_region_held3 (fun w'=>w'.heap[w.heap.size]? =some (.cells (ec (ZD x m)) 56 (0,0))∧w'.heap[w.heap.size+1]? =some (.cells (msc m) 38 (0,0))) (first |exact ⟨rE,rM⟩|exact ⟨c2.keep rE (by simp),c2.keep rM (by simp)⟩|exact ⟨c3.keep rE (by simp),c3.keep rM (by simp)⟩|exact ⟨c2.keep (by simp [*]) (by simp),c2.keep (by simp [*]) (by simp)⟩|exact ⟨c3.keep (by simp [*]) (by simp),c3.keep (by simp [*]) (by simp)⟩|simp [*])
   (first
    |(go_at_call 164;refine (Ye _ _).mono ?_;rintro e w' ⟨rfl,rfl⟩)
    |(go_at_call 212;refine (Qay _ _ _).mono ?_;rintro e w' ⟨rfl,c3⟩;(first |(have rR3:=c3.keep rR (by simp))|(have rR3:=c3.keep rR2 (by simp))))
    |(go_at_call 163;refine (Qe6 _ _ _ _ _ _ Cz30).mono ?_;rintro e w' ⟨A2,n2,rfl,hs2,hA2,c2⟩;(have hA3:∀a,A2=some a→w1.heap.size≤a.block:=Cz31);(first |(have rR2:=c2.keep rR (by simp))|(have rR2:=c2.keep rR3 (by simp))|(have rR2:=c2.keep (x:=.cells (ec (Zx (ZD x m) c)) 56 (0,0)) (k:=w.heap.size+2) (by simp [rR3]) (by simp)))))
  all_goals
   go_wp2_with fail
   refine bodyPost_ret (v:=.tuple #[.agg (ec (Zx (ZD x m) c)),.slice A2 (Xf (bitM c) (ms4 11 m.li false false)).length n2]) ?_ (by rfl) ?_
   ·exact Xy (by rfl) _ _ (w.heap.size+2) _ (0,0) (by rfl) (by first |exact rR2|(simp [rR2];done)|(simp [rR3];done)) _ (by rfl)
   exact Tz28
 ·have e1:putE x c m=(Zx x c,Xf (bitM c) (ms4 11 m.li false false)):=by unfold putE;rw [if_neg h]
  have t1:(x.ow==c)=false:=by simpa using h
  rw [e1]
  clear e1 h
  go_enter Tryz.func207,Tryz.ntmps207
  try dsimp only [List.append]
  go_wp2_with fail
  refine XK (w:=w) (b1:=w.heap.size) (x1:=.cells (ec (x)) 56 (0,0)) (b2:=w.heap.size+1) (x2:=.cells (msc m) 38 (0,0)) (b3:=w.heap.size+2) (x3:=.cells (ec (enZ)) 56 (0,0)) Cz1 (by simp [*]) (by simp [*]) (by simp [*]) fun w1 C1 rE rM rR=>?_
  have oE:=old rE
  have oM:=old rM
  have oR:=old rR
  have o0:=h0.chg C1
  go_region_held3 (fun w'=>w'.heap[w.heap.size]? =some (.cells (ec (x)) 56 (0,0))∧w'.heap[w.heap.size+1]? =some (.cells (msc m) 38 (0,0))) (first |exact ⟨rE,rM⟩|exact ⟨c2.keep rE (by simp),c2.keep rM (by simp)⟩|exact ⟨c3.keep rE (by simp),c3.keep rM (by simp)⟩|exact ⟨c2.keep (by simp [*]) (by simp),c2.keep (by simp [*]) (by simp)⟩|exact ⟨c3.keep (by simp [*]) (by simp),c3.keep (by simp [*]) (by simp)⟩|simp [*])
   (first
    |(go_at_call 164;refine (Ye _ _).mono ?_;rintro e w' ⟨rfl,rfl⟩)
    |(go_at_call 212;refine (Qay _ _ _).mono ?_;rintro e w' ⟨rfl,c3⟩;(first |(have rR3:=c3.keep rR (by simp))|(have rR3:=c3.keep rR2 (by simp))))
    |(go_at_call 163;refine (Qe6 _ _ _ _ _ _ Cz30).mono ?_;rintro e w' ⟨A2,n2,rfl,hs2,hA2,c2⟩;(have hA3:∀a,A2=some a→w1.heap.size≤a.block:=Cz31);(first |(have rR2:=c2.keep rR (by simp))|(have rR2:=c2.keep rR3 (by simp))|(have rR2:=c2.keep (x:=.cells (ec (Zx (x) c)) 56 (0,0)) (k:=w.heap.size+2) (by simp [rR3]) (by simp)))))
  all_goals
   go_wp2_with fail
   refine bodyPost_ret (v:=.tuple #[.agg (ec (Zx (x) c)),.slice A2 (Xf (bitM c) (ms4 11 m.li false false)).length n2]) ?_ (by rfl) ?_
   ·exact Xy (by rfl) _ _ (w.heap.size+2) _ (0,0) (by rfl) (by first |exact rR2|(simp [rR2];done)|(simp [rR3];done)) _ (by rfl)
   exact Tz28
end
section
theorem wideDd:Wide Tryz.prog 222 6:=⟨⟨_,Tryz.underlying222,by rfl⟩,by kernel_rfl⟩
theorem loadDd (x:Value):Instr.loadAt 222 x=Qc8 222 6 x:=rfl
theorem storeDd (x y:Value):Instr.storeAt 222 x y=JW 222 6 x y:=rfl
def ddv:Array Value:=#[.nilFunc,.func (.func 205) #[] #[],.func (.func 206) #[] #[],.func (.func 207) #[] #[],.func (.func 208) #[] #[],.func (.func 209) #[] #[]]
theorem ddv_one:Qa1 ddv:=Qt [.nilFunc,.func (.func 205) #[] #[],.func (.func 206) #[] #[],.func (.func 207) #[] #[],.func (.func 208) #[] #[],.func (.func 209) #[] #[]] rfl
theorem ddv_lit:(#[.nilFunc,.func (.func 205) #[] #[],.func (.func 206) #[] #[],.func (.func 207) #[] #[],.func (.func 208) #[] #[],.func (.func 209) #[] #[]]:Array Value)=ddv:=rfl
attribute [local go_sem ↓] loadDd storeDd ddv_lit
attribute [local go_sem] wideDd ddv_one
theorem ddeeds_any (w:World):Calls Tryz.prog 146 #[] w fun e w'=>e=.returned (.agg ddv)∧Chg [] w w':=by
 have hz:ddv.size=6:=rfl
 go_enter Tryz.func146,Tryz.ntmps146
 try dsimp only [List.append]
 go_wp2
 refine bodyPost_ret (v:=.agg ddv) ?_ (by rfl) ?_
 ·have hb:(w.alloc (.cells ddv 222)).heap[w.heap.size]? =some (.cells ddv 222 (0,0)):=by simp
  have:=run_loadVar_row (P:=Tryz.prog) (w.alloc (.cells ddv 222)) w.heap.size 222 222 ddv (0,0) _ hb Tryz.underlying222 rfl (by kernel_rfl)
  simp [results,asAddr,this]
 exact Tz0
theorem ddv_at1 (W:World):(Instr.index 222 (.agg ddv) (.int .i64 1)).run Tryz.prog W=.ok (.func (.func 205) #[] #[]) W:=by rfl
theorem ddv_at2 (W:World):(Instr.index 222 (.agg ddv) (.int .i64 2)).run Tryz.prog W=.ok (.func (.func 206) #[] #[]) W:=by rfl
theorem ddv_at3 (W:World):(Instr.index 222 (.agg ddv) (.int .i64 3)).run Tryz.prog W=.ok (.func (.func 207) #[] #[]) W:=by rfl
theorem ddv_at4 (W:World):(Instr.index 222 (.agg ddv) (.int .i64 4)).run Tryz.prog W=.ok (.func (.func 208) #[] #[]) W:=by rfl
theorem ddv_at5 (W:World):(Instr.index 222 (.agg ddv) (.int .i64 5)).run Tryz.prog W=.ok (.func (.func 209) #[] #[]) W:=by rfl
def En3 (w:World) (r:(En×List Sd)×Int):Ending→World→Prop:=fun e w'=>∃A c,e=.returned (.tuple #[.agg (ec r.1.1),.slice A r.1.2.length c,.int .i64 r.2])∧Sl w' 13 A r.1.2.length (cat Sd.enc r.1.2)∧(∀a,A=some a→w.heap.size≤a.block)∧Chg [] w w'
theorem JJ (m:Ms) (b:Bool) (h:mg m=b) (w:World) (ht:Tab w):Calls Tryz.prog 144 #[.agg (msc m)] w fun e w'=>e=.returned (.bool b)∧Chg [] w w':=h▸Qgm m w ht
theorem asks_at (k:Int) (b:Bool) (h:Yc k=b) (w:World):Calls Tryz.prog 145 #[.int .i64 k] w fun e w'=>e=.returned (.bool b)∧w=w':=h▸asks_any k w
theorem Qc5 (k:Int) (b:Bool) (h:Xe k=b) (w:World):Calls Tryz.prog 153 #[.int .i64 k] w fun e w'=>e=.returned (.bool b)∧w=w':=h▸answers_any k w
theorem En3.err (w w':World) (n:Int) (h:Chg [] w w'):En3 w ((enZ,[]),n) (.returned (.tuple #[.agg (ec enZ),.slice none 0 0,.int .i64 n])) w':=⟨none,0,rfl,⟨rfl,.inl rfl⟩,by simp,h⟩
theorem Qbn {P:Program} {f:FuncId} {fn:Func} {c:Code} (hf:P.funcs[f]? =some fn) (hname:(fn.name== "runtime.NumGoroutine")=false) (hb:fn.body=some c) (args:Array Value) (w:World):
 (callFunc f args).run P w=.ok (.enter f args) w:=by
 have h1:fn.name≠ "runtime.NumGoroutine" :=by simpa using hname
 simp [callFunc,hf,h1,hb]
theorem deed_of (x:En) (c:Int) (m:Ms) (h:Yc m.kd=true):∃K:Nat,(∀W,(Instr.index 222 (.agg ddv) (.int .i64 m.kd)).run Tryz.prog W=.ok (.func (.func K) #[] #[]) W)∧
 (∀args W,(callFunc K args).run Tryz.prog W=.ok (.enter K args) W)∧∀W,Old W 0→Calls Tryz.prog K #[.agg (ec x),.int .i64 c,.agg (msc m)] W (EnSds W (XX x c m)):=by
 have hk:m.kd=1∨m.kd=2∨m.kd=3∨m.kd=4∨m.kd=5:=by simp [Yc] at h;omega
 rcases hk with hk|hk|hk|hk|hk
 ·exact ⟨_,by rw [hk];exact ddv_at1,Qbn Tryz.func205 (by kernel_rfl) rfl,fun W h0=>by rw [show XX x c m=Qal x c m by simp [XX,hk]];exact dgetS_any x c m W h0⟩
 ·exact ⟨_,by rw [hk];exact ddv_at2,Qbn Tryz.func206 (by kernel_rfl) rfl,fun W h0=>by rw [show XX x c m=Qb6 x c m by simp [XX,hk]];exact dgetM_any x c m W h0⟩
 ·exact ⟨_,by rw [hk];exact ddv_at3,Qbn Tryz.func207 (by kernel_rfl) rfl,fun W h0=>by rw [show XX x c m=putE x c m by simp [XX,hk]];exact dput_any x c m W h0⟩
 ·exact ⟨_,by rw [hk];exact ddv_at4,Qbn Tryz.func208 (by kernel_rfl) rfl,fun W h0=>by rw [show XX x c m=Qdb x c m by simp [XX,hk]];exact dclean_any x c m W h0⟩
 ·exact ⟨_,by rw [hk];exact ddv_at5,Qbn Tryz.func209 (by kernel_rfl) rfl,fun W h0=>by rw [show XX x c m=wipeE x c m by simp [XX,hk]];exact dwipe_any x c m W h0⟩
set_option maxHeartbeats 8000000 in
theorem dask_any (x:En) (c:Int) (m:Ms) (w:World) (ht:Tab w):Calls Tryz.prog 90 #[.agg (ec x),.int .i64 c,.agg (msc m)] w (En3 w (askE x c m)):=by
 cases g1:Xz x
 ·skip
  rw [show askE x c m=((enZ,[]),1) from by simp [askE,JR,g1]]
  go_enter Tryz.func90,Tryz.ntmps90
  exact Tz37
 cases g2:isC c
 ·skip
  rw [show askE x c m=((enZ,[]),1) from by simp [askE,JR,g2]]
  go_enter Tryz.func90,Tryz.ntmps90
  exact Tz34
 cases g3:mg m
 ·skip
  rw [show askE x c m=((enZ,[]),1) from by simp [askE,JR,g3]]
  go_enter Tryz.func90,Tryz.ntmps90
  exact Tz20
 cases g4:Yc m.kd
 ·skip
  rw [show askE x c m=((enZ,[]),1) from by simp [askE,JR,g4]]
  go_enter Tryz.func90,Tryz.ntmps90
  try dsimp only [List.append]
  go_wp2_with fail
  refine ZJ (w:=w) (b1:=w.heap.size) (x1:=.cells (ec (x)) 56 (0,0)) (b2:=w.heap.size+1) (x2:=.cells (msc m) 38 (0,0)) (b3:=w.heap.size+2) (x3:=.cells (ec (enZ)) 56 (0,0)) Cz0 (by simp [*]) (by simp [*]) (by simp [*]) fun w1 C1 rE rM rR=>?_
  have oE:=old rE
  have oM:=old rM
  have oR:=old rR
  refine (Yv x _ g1 w1).mono ?_
  rintro e w3 ⟨rfl,c3⟩
  have rE3:=c3.keep rE (by simp)
  have rM3:=c3.keep rM (by simp)
  have rR3:=c3.keep rR (by simp)
  have C3:=C1.trans c3
  have o3:=ht.keep C3 (by simp)
  clear rE rM rR oE oM oR C1 c3
  have oE3:=old rE3
  have oM3:=old rM3
  have oR3:=old rR3
  go_wp2_with ((go_at_call 143;refine (YK _ _ g2 _).mono ?_;rintro e w' ⟨rfl,rfl⟩))
  refine (JJ m _ g3 w3 o3).mono ?_
  rintro e w4 ⟨rfl,c4⟩
  have rE4:=c4.keep rE3 (by simp)
  have rM4:=c4.keep rM3 (by simp)
  have rR4:=c4.keep rR3 (by simp)
  have C4:=C3.trans c4
  have o4:=ht.old0.chg C4
  clear rE3 rM3 rR3 oE3 oM3 oR3 C3 c4 o3
  have oE4:=old rE4
  have oM4:=old rM4
  have oR4:=old rR4
  go_wp2_with (go_at_call 145;refine (asks_at _ _ g4 _).mono ?_;rintro e w' ⟨rfl,rfl⟩)
  exact Tz109
 have ga:JR x c m=true:=by simp [JR,g1,g2,g3,g4]
 by_cases hb:x.bu=0
 ·have t1:(x.bu !=0)=false:=by simp [hb]
  cases hh:x.he
  ·skip
   rw [show askE x c m=((enZ,[]),16) from by simp [askE,ga,hb,hh]]
   clear ga
   go_enter Tryz.func90,Tryz.ntmps90
   try dsimp only [List.append]
   go_wp2_with fail
   refine ZJ (w:=w) (b1:=w.heap.size) (x1:=.cells (ec (x)) 56 (0,0)) (b2:=w.heap.size+1) (x2:=.cells (msc m) 38 (0,0)) (b3:=w.heap.size+2) (x3:=.cells (ec (enZ)) 56 (0,0)) Cz0 (by simp [*]) (by simp [*]) (by simp [*]) fun w1 C1 rE rM rR=>?_
   have oE:=old rE
   have oM:=old rM
   have oR:=old rR
   refine (Yv x _ g1 w1).mono ?_
   rintro e w3 ⟨rfl,c3⟩
   have rE3:=c3.keep rE (by simp)
   have rM3:=c3.keep rM (by simp)
   have rR3:=c3.keep rR (by simp)
   have C3:=C1.trans c3
   have o3:=ht.keep C3 (by simp)
   clear rE rM rR oE oM oR C1 c3
   have oE3:=old rE3
   have oM3:=old rM3
   have oR3:=old rR3
   go_wp2_with ((go_at_call 143;refine (YK _ _ g2 _).mono ?_;rintro e w' ⟨rfl,rfl⟩))
   refine (JJ m _ g3 w3 o3).mono ?_
   rintro e w4 ⟨rfl,c4⟩
   have rE4:=c4.keep rE3 (by simp)
   have rM4:=c4.keep rM3 (by simp)
   have rR4:=c4.keep rR3 (by simp)
   have C4:=C3.trans c4
   have o4:=ht.old0.chg C4
   clear rE3 rM3 rR3 oE3 oM3 oR3 C3 c4 o3
   have oE4:=old rE4
   have oM4:=old rM4
   have oR4:=old rR4
   go_wp2_with (go_at_call 145;refine (asks_at _ _ g4 _).mono ?_;rintro e w' ⟨rfl,rfl⟩)
   exact Tz108
  ·rw [show askE x c m=(XX x c m,0) from by simp [askE,ga,hb,hh]]
   clear ga hb
   obtain ⟨K,hix,hen,hd⟩:=deed_of x c m g4
   go_enter Tryz.func90,Tryz.ntmps90
   try dsimp only [List.append]
   go_wp2_with fail
   refine ZJ (w:=w) (b1:=w.heap.size) (x1:=.cells (ec (x)) 56 (0,0)) (b2:=w.heap.size+1) (x2:=.cells (msc m) 38 (0,0)) (b3:=w.heap.size+2) (x3:=.cells (ec (enZ)) 56 (0,0)) Cz0 (by simp [*]) (by simp [*]) (by simp [*]) fun w1 C1 rE rM rR=>?_
   have oE:=old rE
   have oM:=old rM
   have oR:=old rR
   refine (Yv x _ g1 w1).mono ?_
   rintro e w3 ⟨rfl,c3⟩
   have rE3:=c3.keep rE (by simp)
   have rM3:=c3.keep rM (by simp)
   have rR3:=c3.keep rR (by simp)
   have C3:=C1.trans c3
   have o3:=ht.keep C3 (by simp)
   clear rE rM rR oE oM oR C1 c3
   have oE3:=old rE3
   have oM3:=old rM3
   have oR3:=old rR3
   go_wp2_with ((go_at_call 143;refine (YK _ _ g2 _).mono ?_;rintro e w' ⟨rfl,rfl⟩))
   refine (JJ m _ g3 w3 o3).mono ?_
   rintro e w4 ⟨rfl,c4⟩
   have rE4:=c4.keep rE3 (by simp)
   have rM4:=c4.keep rM3 (by simp)
   have rR4:=c4.keep rR3 (by simp)
   have C4:=C3.trans c4
   have o4:=ht.old0.chg C4
   clear rE3 rM3 rR3 oE3 oM3 oR3 C3 c4 o3
   have oE4:=old rE4
   have oM4:=old rM4
   have oR4:=old rR4
   go_wp2_with (go_at_call 145;refine (asks_at _ _ g4 _).mono ?_;rintro e w' ⟨rfl,rfl⟩)
   have HT:=Vh ht
   have HC4:=Vh C4
   have O4:=Vh (ht.old0.chg C4)
   clear C4 o4 ht g1 g2 g3 g4 t1 hh
   go_region_with (first
    |(go_at_call 146;refine (ddeeds_any _).mono ?_;rintro e w' ⟨rfl,c5⟩;(have rE5:=c5.keep rE4 (by simp));(have rR5:=c5.keep rR4 (by simp));(have rM5:=c5.keep rM4 (by simp));(have o5:Old _ 0:=Old.chg (b:=0) (by first |exact O4.out|(show (0:Nat)<_;exact O4.out.lt)) c5);(have z5:=c5.size))
    |(refine Calls.mono (hd _ ?_) ?_;exact o5;rintro e w' ⟨A2,n2,rfl,hs2,hA2,c2⟩;(have hA3:∀a,A2=some a→w4.heap.size≤a.block:=(fun a ha=>Nat.le_trans z5 (hA2 a ha)));(have rR2:=c2.keep rR5 (by simp));(have rE2:=c2.keep rE5 (by simp))))
   all_goals
    have C4:=HC4.out
    go_wp2_with fail
    refine bodyPost_ret (v:=.tuple #[.agg (ec (XX x c m).1),.slice A2 (XX x c m).2.length n2,.int .i64 0]) ?_ (by rfl) ?_
    ·exact Xw (by rfl) _ _ (w.heap.size+2) (XX x c m).1 (0,0) (by rfl) (by simp [rR2,rE2];done) _ _ (by rfl) (by rfl)
    refine ⟨A2,n2,rfl,?_,fun a ha=>Nat.le_trans C4.size (hA3 a ha),by (repeat' (first |with_reducible exact Chg.refl _ _|with_reducible assumption|with_reducible refine Chg.drew ?_|with_reducible refine Chg.drewN ?_ _|with_reducible refine Chg.alloc ?_ _|with_reducible refine Chg.putRow ?_ _ _ _ (.inr ?_)|with_reducible refine Chg.setCell ?_ _ _ _ (.inr ?_)|with_reducible refine Chg.trans ?_ c2|with_reducible refine Chg.trans (b:=World.drew _) ?_ c2|with_reducible refine Chg.trans ?_ c5|with_reducible refine Chg.trans (b:=World.drew _) ?_ c5|(show _≤_;first |exact Nat.le_refl _|omega|(simp;done))))⟩
    exact hs2.chg (((Chg.refl [w.heap.size,w.heap.size+2] _).putRow _ _ _ (.inl (by simp))).putRow _ _ _ (.inl (by simp))) (by intro a ha;have:=hA3 a ha;have:=oR4.lt;have:=oE4.lt;simp;omega)
 ·have t1:(x.bu !=0)=true:=by simpa using hb
  rw [show askE x c m=((enZ,[]),15) from by simp [askE,ga,hb]]
  clear ga hb
  go_enter Tryz.func90,Tryz.ntmps90
  try dsimp only [List.append]
  go_wp2_with fail
  refine ZJ (w:=w) (b1:=w.heap.size) (x1:=.cells (ec (x)) 56 (0,0)) (b2:=w.heap.size+1) (x2:=.cells (msc m) 38 (0,0)) (b3:=w.heap.size+2) (x3:=.cells (ec (enZ)) 56 (0,0)) Cz0 (by simp [*]) (by simp [*]) (by simp [*]) fun w1 C1 rE rM rR=>?_
  have oE:=old rE
  have oM:=old rM
  have oR:=old rR
  refine (Yv x _ g1 w1).mono ?_
  rintro e w3 ⟨rfl,c3⟩
  have rE3:=c3.keep rE (by simp)
  have rM3:=c3.keep rM (by simp)
  have rR3:=c3.keep rR (by simp)
  have C3:=C1.trans c3
  have o3:=ht.keep C3 (by simp)
  clear rE rM rR oE oM oR C1 c3
  have oE3:=old rE3
  have oM3:=old rM3
  have oR3:=old rR3
  go_wp2_with ((go_at_call 143;refine (YK _ _ g2 _).mono ?_;rintro e w' ⟨rfl,rfl⟩))
  refine (JJ m _ g3 w3 o3).mono ?_
  rintro e w4 ⟨rfl,c4⟩
  have rE4:=c4.keep rE3 (by simp)
  have rM4:=c4.keep rM3 (by simp)
  have rR4:=c4.keep rR3 (by simp)
  have C4:=C3.trans c4
  have o4:=ht.old0.chg C4
  clear rE3 rM3 rR3 oE3 oM3 oR3 C3 c4 o3
  have oE4:=old rE4
  have oM4:=old rM4
  have oR4:=old rR4
  go_wp2_with (go_at_call 145;refine (asks_at _ _ g4 _).mono ?_;rintro e w' ⟨rfl,rfl⟩)
  refine bodyPost_ret (v:=.tuple #[.agg (ec enZ),.slice none 0 0,.int .i64 15]) ?_ (by rfl) ?_
  ·exact Xw (by rfl) _ _ (w.heap.size+2) enZ (0,0) (by rfl) (by simp [rR4];try rfl) _ _ (by rfl) (by rfl)
  exact En3.err _ _ _ Cz0
end
section
theorem Qel (x:En) (c:Int) (m:Ms) (w:World):Calls Tryz.prog 155 #[.agg (ec x),.int .i64 c,.agg (msc m)] w fun e w'=>e=.returned (.agg (ec (Zn x c m)))∧Chg [] w w':=by
 cases hk:m.ke
 ·rw [show Zn x c m=((Zx (ZD x m) c).setWa ((Zx (ZD x m) c).wa&&& ~~~(bitM c))) from by simp [Zn,hk]]
  go_enter Tryz.func155,Tryz.ntmps155
  try dsimp only [List.append]
  go_wp2_with fail
  refine ZJ (w:=w) (b1:=w.heap.size) (x1:=.cells (ec (x)) 56 (0,0)) (b2:=w.heap.size+1) (x2:=.cells (msc m) 38 (0,0)) (b3:=w.heap.size+2) (x3:=.cells (ec (enZ)) 56 (0,0)) Cz0 (by simp [*]) (by simp [*]) (by simp [*]) fun w1 C1 rE rM rR=>?_
  have oE:=old rE
  have oM:=old rM
  have oR:=old rR
  refine (Qcl x m w1).mono ?_
  rintro e w3 ⟨rfl,c3⟩
  have rE3:=c3.keep rE (by simp)
  have rM3:=c3.keep rM (by simp)
  have rR3:=c3.keep rR (by simp)
  have C3:=C1.trans c3
  clear rE rM rR oE oM oR C1 c3
  go_wp2_with fail
  refine (Qay _ c w3).mono ?_
  rintro e w4 ⟨rfl,c4⟩
  have rE4:=c4.keep rE3 (by simp)
  have rM4:=c4.keep rM3 (by simp)
  have rR4:=c4.keep rR3 (by simp)
  have C4:=C3.trans c4
  clear rE3 rM3 rR3 C3 c4
  have oE4:=old rE4
  have oM4:=old rM4
  have oR4:=old rR4
  go_wp2_with fail
  go_region_with ((go_at_call 164;refine (Ye _ _).mono ?_;rintro e w' ⟨rfl,rfl⟩))
  all_goals
   go_wp2_with fail
   refine bodyPost_ret (v:=.agg (ec ((Zx (ZD x m) c).setWa ((Zx (ZD x m) c).wa&&& ~~~(bitM c))))) ?_ (by rfl) ?_
   ·exact XU (by rfl) _ _ (w.heap.size+2) _ (0,0) (by rfl) Cz16
   exact Tz0
 ·rw [show Zn x c m=((Zx (ZD x m) c).setWa ((Zx (ZD x m) c).wa&&& ~~~(bitM c))).setSh ((Zx (ZD x m) c).sh|||bitM c) from by simp [Zn,hk];rfl]
  go_enter Tryz.func155,Tryz.ntmps155
  try dsimp only [List.append]
  go_wp2_with fail
  refine ZJ (w:=w) (b1:=w.heap.size) (x1:=.cells (ec (x)) 56 (0,0)) (b2:=w.heap.size+1) (x2:=.cells (msc m) 38 (0,0)) (b3:=w.heap.size+2) (x3:=.cells (ec (enZ)) 56 (0,0)) Cz0 (by simp [*]) (by simp [*]) (by simp [*]) fun w1 C1 rE rM rR=>?_
  have oE:=old rE
  have oM:=old rM
  have oR:=old rR
  refine (Qcl x m w1).mono ?_
  rintro e w3 ⟨rfl,c3⟩
  have rE3:=c3.keep rE (by simp)
  have rM3:=c3.keep rM (by simp)
  have rR3:=c3.keep rR (by simp)
  have C3:=C1.trans c3
  clear rE rM rR oE oM oR C1 c3
  go_wp2_with fail
  refine (Qay _ c w3).mono ?_
  rintro e w4 ⟨rfl,c4⟩
  have rE4:=c4.keep rE3 (by simp)
  have rM4:=c4.keep rM3 (by simp)
  have rR4:=c4.keep rR3 (by simp)
  have C4:=C3.trans c4
  clear rE3 rM3 rR3 C3 c4
  have oE4:=old rE4
  have oM4:=old rM4
  have oR4:=old rR4
  go_wp2_with fail
  go_region_with ((go_at_call 164;refine (Ye _ _).mono ?_;rintro e w' ⟨rfl,rfl⟩))
  all_goals
   go_wp2_with fail
   refine XK (w:=w) (b1:=w.heap.size) (x1:=.cells (ec (((Zx (ZD x m) c).setWa ((Zx (ZD x m) c).wa&&& ~~~(bitM c))))) 56 (0,0)) (b2:=w.heap.size+1) (x2:=.cells (msc m) 38 (0,0)) (b3:=w.heap.size+2) (x3:=.cells (ec (enZ)) 56 (0,0)) Cz0 Cz16 Cz16 Cz16 fun w5 C5 rE5 rM5 rR5=>?_
   have oE5:=old rE5
   have oM5:=old rM5
   have oR5:=old rR5
   go_region_with ((go_at_call 164;refine (Ye _ _).mono ?_;rintro e w' ⟨rfl,rfl⟩))
   all_goals
    go_wp2_with fail
    refine bodyPost_ret (v:=.agg (ec (((Zx (ZD x m) c).setWa ((Zx (ZD x m) c).wa&&& ~~~(bitM c))).setSh ((Zx (ZD x m) c).sh|||bitM c)))) ?_ (by rfl) ?_
    ·exact XU (by rfl) _ _ (w.heap.size+2) _ (0,0) (by rfl) Cz16
    exact Tz0
theorem dsettled_any (x:En) (li:Int) (w:World) (h0:Old w 0):Calls Tryz.prog 156 #[.agg (ec x),.int .i64 li] w (EnSds w (X4 x li)):=by
 by_cases h1:x.bu=1
 ·have t1:(x.bu==1)=true:=by simpa using h1
  rw [show X4 x li=Yp (XG x) x.by_ li by simp [X4,h1]]
  clear h1
  go_enter Tryz.func156,Tryz.ntmps156
  try dsimp only [List.append]
  go_wp2_with fail
  refine Jn (w:=w) (b1:=w.heap.size) (x1:=.cells (ec (x)) 56 (0,0)) (b2:=w.heap.size+1) (x2:=.cells (ec (enZ)) 56 (0,0)) Cz0 (by simp [*]) (by simp [*]) fun w1 C1 rE rR=>?_
  have oE:=old rE
  have oR:=old rR
  have o0:=h0.chg C1
  go_region_held3 (fun w'=>w'.heap[w.heap.size]? =some (.cells (ec (x)) 56 (0,0))) (first |exact rE|exact c2.keep rE (by simp)|exact c3.keep rE (by simp)|exact c2.keep (by simp [*]) (by simp)|exact c3.keep (by simp [*]) (by simp)|simp [*])
   (first
    |(go_at_call 162;refine (Qg4 _ _).mono ?_;rintro e w' ⟨rfl,c3⟩;(have rR3:=c3.keep rR (by simp));(have o3:=Old.chg (b:=0) Cz13 c3);(have z3:=c3.size))
    |(go_at_call 213;refine (Qg3 _ _ _ _ ?_).mono ?_;exact o3;rintro e w' ⟨A2,n2,rfl,hs2,hA2,c2⟩;(have hA3:∀a,A2=some a→w1.heap.size≤a.block:=(fun a ha=>Nat.le_trans z3 (hA2 a ha)));(have rR2:=c2.keep rR3 (by simp))))
  all_goals
   go_wp2_with fail
   refine bodyPost_ret (v:=.tuple #[.agg (ec ((Yp (XG x) x.by_ li).1)),.slice A2 (Yp (XG x) x.by_ li).2.length n2]) ?_ (by rfl) ?_
   ·exact Xy (by rfl) _ _ (w.heap.size+1) _ (0,0) (by rfl) Cz15 _ (by rfl)
   exact Tz39
 have t1:(x.bu==1)=false:=by simpa using h1
 by_cases h2:x.bu=2
 ·have t2:(x.bu==2)=true:=by simpa using h2
  rw [show X4 x li=YA (XG x) x.by_ 10 li by simp [X4,h2]]
  clear h1 h2
  go_enter Tryz.func156,Tryz.ntmps156
  try dsimp only [List.append]
  go_wp2_with fail
  refine Jn (w:=w) (b1:=w.heap.size) (x1:=.cells (ec (x)) 56 (0,0)) (b2:=w.heap.size+1) (x2:=.cells (ec (enZ)) 56 (0,0)) Cz0 (by simp [*]) (by simp [*]) fun w1 C1 rE rR=>?_
  have oE:=old rE
  have oR:=old rR
  have o0:=h0.chg C1
  go_region_held3 (fun w'=>w'.heap[w.heap.size]? =some (.cells (ec (x)) 56 (0,0))) (first |exact rE|exact c2.keep rE (by simp)|exact c3.keep rE (by simp)|exact c2.keep (by simp [*]) (by simp)|exact c3.keep (by simp [*]) (by simp)|simp [*])
   (first
    |(go_at_call 162;refine (Qg4 _ _).mono ?_;rintro e w' ⟨rfl,c3⟩;(have rR3:=c3.keep rR (by simp));(have o3:=Old.chg (b:=0) Cz13 c3);(have z3:=c3.size))
    |(go_at_call 214;refine (Qe7 _ _ _ _ _ ?_).mono ?_;exact o3;rintro e w' ⟨A2,n2,rfl,hs2,hA2,c2⟩;(have hA3:∀a,A2=some a→w1.heap.size≤a.block:=(fun a ha=>Nat.le_trans z3 (hA2 a ha)));(have rR2:=c2.keep rR3 (by simp))))
  all_goals
   go_wp2_with fail
   refine bodyPost_ret (v:=.tuple #[.agg (ec ((YA (XG x) x.by_ 10 li).1)),.slice A2 (YA (XG x) x.by_ 10 li).2.length n2]) ?_ (by rfl) ?_
   ·exact Xy (by rfl) _ _ (w.heap.size+1) _ (0,0) (by rfl) Cz15 _ (by rfl)
   exact Tz39
 ·have t2:(x.bu==2)=false:=by simpa using h2
  rw [show X4 x li=(x,[]) by simp [X4,h1,h2]]
  clear h1 h2
  go_enter Tryz.func156,Tryz.ntmps156
  try dsimp only [List.append]
  go_wp2_with fail
  refine bodyPost_ret (v:=.tuple #[.agg (ec x),.slice none 0 0]) ?_ (by rfl) ?_
  ·exact Xy (by rfl) _ _ (w.heap.size+1) x (0,0) (by rfl) (by simp) _ (by rfl)
  exact Tz22
theorem danswer_any (x:En) (c:Int) (m:Ms) (w:World) (ht:Tab w):Calls Tryz.prog 94 #[.agg (ec x),.int .i64 c,.agg (msc m)] w (En3 w (ansE x c m)):=by
 cases g1:Xz x
 ·skip
  rw [show ansE x c m=((enZ,[]),1) from by simp [ansE,Qbo,g1]]
  go_enter Tryz.func94,Tryz.ntmps94
  exact Tz37
 cases g2:isC c
 ·skip
  rw [show ansE x c m=((enZ,[]),1) from by simp [ansE,Qbo,g2]]
  go_enter Tryz.func94,Tryz.ntmps94
  exact Tz34
 cases g3:mg m
 ·skip
  rw [show ansE x c m=((enZ,[]),1) from by simp [ansE,Qbo,g3]]
  go_enter Tryz.func94,Tryz.ntmps94
  exact Tz20
 cases g4:Xe m.kd
 ·skip
  rw [show ansE x c m=((enZ,[]),1) from by simp [ansE,Qbo,g4]]
  go_enter Tryz.func94,Tryz.ntmps94
  try dsimp only [List.append]
  go_wp2_with fail
  refine ZJ (w:=w) (b1:=w.heap.size) (x1:=.cells (ec (x)) 56 (0,0)) (b2:=w.heap.size+1) (x2:=.cells (msc m) 38 (0,0)) (b3:=w.heap.size+2) (x3:=.cells (ec (enZ)) 56 (0,0)) Cz0 (by simp [*]) (by simp [*]) (by simp [*]) fun w1 C1 rE rM rR=>?_
  have oE:=old rE
  have oM:=old rM
  have oR:=old rR
  refine (Yv x _ g1 w1).mono ?_
  rintro e w3 ⟨rfl,c3⟩
  have rE3:=c3.keep rE (by simp)
  have rM3:=c3.keep rM (by simp)
  have rR3:=c3.keep rR (by simp)
  have C3:=C1.trans c3
  have o3:=ht.keep C3 (by simp)
  clear rE rM rR oE oM oR C1 c3
  have oE3:=old rE3
  have oM3:=old rM3
  have oR3:=old rR3
  go_wp2_with ((go_at_call 143;refine (YK _ _ g2 _).mono ?_;rintro e w' ⟨rfl,rfl⟩))
  refine (JJ m _ g3 w3 o3).mono ?_
  rintro e w4 ⟨rfl,c4⟩
  have rE4:=c4.keep rE3 (by simp)
  have rM4:=c4.keep rM3 (by simp)
  have rR4:=c4.keep rR3 (by simp)
  have C4:=C3.trans c4
  have o4:=ht.old0.chg C4
  clear rE3 rM3 rR3 oE3 oM3 oR3 C3 c4 o3
  have oE4:=old rE4
  have oM4:=old rM4
  have oR4:=old rR4
  go_wp2_with (go_at_call 153;refine (Qc5 _ _ g4 _).mono ?_;rintro e w' ⟨rfl,rfl⟩)
  exact Tz109
 have ga:Qbo x c m=true:=by simp [Qbo,g1,g2,g3,g4]
 cases hb:hasM x.wa c
 ·rw [show ansE x c m=((enZ,[]),16) from by simp [ansE,ga,hb]]
  clear ga
  go_enter Tryz.func94,Tryz.ntmps94
  try dsimp only [List.append]
  go_wp2_with fail
  refine ZJ (w:=w) (b1:=w.heap.size) (x1:=.cells (ec (x)) 56 (0,0)) (b2:=w.heap.size+1) (x2:=.cells (msc m) 38 (0,0)) (b3:=w.heap.size+2) (x3:=.cells (ec (enZ)) 56 (0,0)) Cz0 (by simp [*]) (by simp [*]) (by simp [*]) fun w1 C1 rE rM rR=>?_
  have oE:=old rE
  have oM:=old rM
  have oR:=old rR
  refine (Yv x _ g1 w1).mono ?_
  rintro e w3 ⟨rfl,c3⟩
  have rE3:=c3.keep rE (by simp)
  have rM3:=c3.keep rM (by simp)
  have rR3:=c3.keep rR (by simp)
  have C3:=C1.trans c3
  have o3:=ht.keep C3 (by simp)
  clear rE rM rR oE oM oR C1 c3
  have oE3:=old rE3
  have oM3:=old rM3
  have oR3:=old rR3
  go_wp2_with ((go_at_call 143;refine (YK _ _ g2 _).mono ?_;rintro e w' ⟨rfl,rfl⟩))
  refine (JJ m _ g3 w3 o3).mono ?_
  rintro e w4 ⟨rfl,c4⟩
  have rE4:=c4.keep rE3 (by simp)
  have rM4:=c4.keep rM3 (by simp)
  have rR4:=c4.keep rR3 (by simp)
  have C4:=C3.trans c4
  have o4:=ht.old0.chg C4
  clear rE3 rM3 rR3 oE3 oM3 oR3 C3 c4 o3
  have oE4:=old rE4
  have oM4:=old rM4
  have oR4:=old rR4
  go_wp2_with (first |(go_at_call 153;refine (Qc5 _ _ g4 _).mono ?_;rintro e w' ⟨rfl,rfl⟩)|(go_at_call 154;refine (Qef _ _ _).mono ?_;rintro e w' ⟨rfl,rfl⟩;rw [hb]))
  exact Tz108
 ·cases hw:((Zn x c m).wa !=0#8)
  ·rw [show ansE x c m=(X4 (Zn x c m) m.li,0) from by simp [ansE,ga,hb];intro h;simp [h] at hw]
   clear ga
   go_enter Tryz.func94,Tryz.ntmps94
   try dsimp only [List.append]
   go_wp2_with fail
   refine ZJ (w:=w) (b1:=w.heap.size) (x1:=.cells (ec (x)) 56 (0,0)) (b2:=w.heap.size+1) (x2:=.cells (msc m) 38 (0,0)) (b3:=w.heap.size+2) (x3:=.cells (ec (enZ)) 56 (0,0)) Cz0 (by simp [*]) (by simp [*]) (by simp [*]) fun w1 C1 rE rM rR=>?_
   have oE:=old rE
   have oM:=old rM
   have oR:=old rR
   refine (Yv x _ g1 w1).mono ?_
   rintro e w3 ⟨rfl,c3⟩
   have rE3:=c3.keep rE (by simp)
   have rM3:=c3.keep rM (by simp)
   have rR3:=c3.keep rR (by simp)
   have C3:=C1.trans c3
   have o3:=ht.keep C3 (by simp)
   clear rE rM rR oE oM oR C1 c3
   have oE3:=old rE3
   have oM3:=old rM3
   have oR3:=old rR3
   go_wp2_with ((go_at_call 143;refine (YK _ _ g2 _).mono ?_;rintro e w' ⟨rfl,rfl⟩))
   refine (JJ m _ g3 w3 o3).mono ?_
   rintro e w4 ⟨rfl,c4⟩
   have rE4:=c4.keep rE3 (by simp)
   have rM4:=c4.keep rM3 (by simp)
   have rR4:=c4.keep rR3 (by simp)
   have C4:=C3.trans c4
   have o4:=ht.old0.chg C4
   clear rE3 rM3 rR3 oE3 oM3 oR3 C3 c4 o3
   have oE4:=old rE4
   have oM4:=old rM4
   have oR4:=old rR4
   go_wp2_with (first |(go_at_call 153;refine (Qc5 _ _ g4 _).mono ?_;rintro e w' ⟨rfl,rfl⟩)|(go_at_call 154;refine (Qef _ _ _).mono ?_;rintro e w' ⟨rfl,rfl⟩;rw [hb]))
   refine (Qel x c m w4).mono ?_
   rintro e w5 ⟨rfl,c5⟩
   have rE5:=c5.keep rE4 (by simp)
   have rM5:=c5.keep rM4 (by simp)
   have rR5:=c5.keep rR4 (by simp)
   have C5:=C4.trans c5
   clear rE4 rM4 rR4 oE4 oM4 oR4 C4 c5 o4
   have oE5:=old rE5
   have oM5:=old rM5
   have oR5:=old rR5
   go_wp2_with fail
   refine ZJ (w:=w) (b1:=w.heap.size) (x1:=.cells (ec (Zn x c m)) 56 (0,0)) (b2:=w.heap.size+1) (x2:=.cells (msc m) 38 (0,0)) (b3:=w.heap.size+2) (x3:=.cells (ec (enZ)) 56 (0,0)) Cz0 (by simp [*]) (by simp [*]) (by simp [*]) fun w6 C6 rE6 rM6 rR6=>?_
   have oE6:=old rE6
   have oM6:=old rM6
   have oR6:=old rR6
   refine (dsettled_any (Zn x c m) m.li w6 (ht.old0.chg C6)).mono ?_
   rintro e w2 ⟨A2,n2,rfl,hs2,hA3,c2⟩
   have rE2:=c2.keep rE6 (by simp)
   have rR2:=c2.keep rR6 (by simp)
   have oE2:=old rE2
   have oR2:=old rR2
   go_wp2_with fail
   refine bodyPost_ret (v:=.tuple #[.agg (ec (X4 (Zn x c m) m.li).1),.slice A2 (X4 (Zn x c m) m.li).2.length n2,.int .i64 0]) ?_ (by rfl) ?_
   ·exact Xw (by rfl) _ _ (w.heap.size+2) (X4 (Zn x c m) m.li).1 (0,0) (by rfl) (by simp [rR2,rE2];done) _ _ (by rfl) (by rfl)
   refine ⟨A2,n2,rfl,?_,fun a ha=>Nat.le_trans C6.size (hA3 a ha),by (repeat' (first |with_reducible exact Chg.refl _ _|with_reducible assumption|with_reducible refine Chg.drew ?_|with_reducible refine Chg.drewN ?_ _|with_reducible refine Chg.alloc ?_ _|with_reducible refine Chg.putRow ?_ _ _ _ (.inr ?_)|with_reducible refine Chg.setCell ?_ _ _ _ (.inr ?_)|with_reducible refine Chg.trans ?_ c2|with_reducible refine Chg.trans (b:=World.drew _) ?_ c2|(show _≤_;first |exact Nat.le_refl _|omega|(simp;done))))⟩
   exact hs2.chg (((Chg.refl [w.heap.size,w.heap.size+2] _).putRow _ _ _ (.inl (by simp))).putRow _ _ _ (.inl (by simp))) (by intro a ha;have:=hA3 a ha;have:=oR6.lt;have:=oE6.lt;simp;omega)
  ·rw [show ansE x c m=((Zn x c m,[]),0) from by simp [ansE,ga,hb];intro h;simp [h] at hw]
   clear ga
   go_enter Tryz.func94,Tryz.ntmps94
   try dsimp only [List.append]
   go_wp2_with fail
   refine ZJ (w:=w) (b1:=w.heap.size) (x1:=.cells (ec (x)) 56 (0,0)) (b2:=w.heap.size+1) (x2:=.cells (msc m) 38 (0,0)) (b3:=w.heap.size+2) (x3:=.cells (ec (enZ)) 56 (0,0)) Cz0 (by simp [*]) (by simp [*]) (by simp [*]) fun w1 C1 rE rM rR=>?_
   have oE:=old rE
   have oM:=old rM
   have oR:=old rR
   refine (Yv x _ g1 w1).mono ?_
   rintro e w3 ⟨rfl,c3⟩
   have rE3:=c3.keep rE (by simp)
   have rM3:=c3.keep rM (by simp)
   have rR3:=c3.keep rR (by simp)
   have C3:=C1.trans c3
   have o3:=ht.keep C3 (by simp)
   clear rE rM rR oE oM oR C1 c3
   have oE3:=old rE3
   have oM3:=old rM3
   have oR3:=old rR3
   go_wp2_with ((go_at_call 143;refine (YK _ _ g2 _).mono ?_;rintro e w' ⟨rfl,rfl⟩))
   refine (JJ m _ g3 w3 o3).mono ?_
   rintro e w4 ⟨rfl,c4⟩
   have rE4:=c4.keep rE3 (by simp)
   have rM4:=c4.keep rM3 (by simp)
   have rR4:=c4.keep rR3 (by simp)
   have C4:=C3.trans c4
   have o4:=ht.old0.chg C4
   clear rE3 rM3 rR3 oE3 oM3 oR3 C3 c4 o3
   have oE4:=old rE4
   have oM4:=old rM4
   have oR4:=old rR4
   go_wp2_with (first |(go_at_call 153;refine (Qc5 _ _ g4 _).mono ?_;rintro e w' ⟨rfl,rfl⟩)|(go_at_call 154;refine (Qef _ _ _).mono ?_;rintro e w' ⟨rfl,rfl⟩;rw [hb]))
   refine (Qel x c m w4).mono ?_
   rintro e w5 ⟨rfl,c5⟩
   have rE5:=c5.keep rE4 (by simp)
   have rM5:=c5.keep rM4 (by simp)
   have rR5:=c5.keep rR4 (by simp)
   have C5:=C4.trans c5
   clear rE4 rM4 rR4 oE4 oM4 oR4 C4 c5 o4
   have oE5:=old rE5
   have oM5:=old rM5
   have oR5:=old rR5
   go_wp2_with fail
   refine bodyPost_ret (v:=.tuple #[.agg (ec (Zn x c m)),.slice none 0 0,.int .i64 0]) ?_ (by rfl) ?_
   ·exact Xw (by rfl) _ _ (w.heap.size+2) (Zn x c m) (0,0) (by rfl) Cz16 _ _ (by rfl) (by rfl)
   exact Tz22
theorem dready_at (x:En) (b:Bool) (h:Yb x=b) (w:World):Calls Tryz.prog 161 #[.agg (ec x)] w fun e w'=>e=.returned (.bool b)∧Chg [] w w':=h▸dready_any x w
end
end Go.Proofs.YtadeoflkppiflaaGreatDoor
