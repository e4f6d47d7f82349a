/- Texts of the walk, one behind the other: Coe Cof Cog Coh Qtl. No condition. -/
import Derived.Test.YtcgjofbkcgedfaaGreatDoorMPaa
import Derived.Test.YtcgjofbkcgedfaaGreatDoorMPab
import Derived.Test.YtcgjofbkcgedfaaGreatDoorMPaj
import Derived.Test.YtcgjofbkcgedfaaGreatDoorMPan
import Derived.Deep.Quiet
import Derived.StillTail
import Derived.StillTailTactics
namespace Go.Proofs.YtcgjofbkcgedfaaGreatDoor
open Go.RowKit
set_option linter.unusedVariables false
set_option maxHeartbeats 1000000
set_option maxRecDepth 100000
attribute [local go_sem ↓] Qv QF Qy QO QE Qs Qk Qh heap_alloc Ql heap_setCell Qc Yq Xu Xg ZP YD XA YC Xz Yi Yh Yd Ye Yf Xh XW XV XU Xj YK YL YJ YG YH YX YT XE YV YW YU YS
attribute [local go_sem] Qb Qa Qd Qi Qe Qg Qf QB Qw QN QL QM Q5 QK QA Qr QD QW QJ Qq QC Qp Qj Qo Qn Yc Xf YB Q8 Xv Xw JT Yg ZZ ZY ZX ZW Yn Ym Yj Yk Yl QG ZQ Xi ZR XT Zc XB YI XC Qad Xa Z9 Z8 Z7 Z6 YP YQ YO YM YN Z3 QY QZ QX QP Qt Zk
attribute [local simp ↓] Qk Qh heap_alloc Ql heap_setCell Qc
attribute [local simp] Qb Qa Qd Qi Qe Qg Qf Qr Qj Qo Qn Q8 QG Zc QY QZ QX QP Qt QD
attribute [local go_sem ↓] Qh
section
structure CS (W w:World) (c:Cg) (sy:Nat) (F:List Nat) (S:Mst) (kb pb qb:Nat) (Q:Co):Prop where
 ms:MS W w c sy F S
 co:Cor w kb pb qb Q
 nk:kb∉F
 np:pb∉F
 nq:qb∉F
 lk:W.heap.size≤kb
 lp:W.heap.size≤pb
 lq:W.heap.size≤qb
def CSTo (W w:World) (c:Cg) (sy:Nat) (F:List Nat) (kb pb qb:Nat) (S':Mst) (Q':Co) (l:List Ev) (e:Ending) (w':World):Prop:=
 ∃v F',e=.returned v∧EvV w' w.heap.size kb F' v l∧CS W w' c sy F' S' kb pb qb Q'∧Chg (kb::pb::qb::F) w w'∧∀k∈F',k∈F∨w.heap.size≤k
section
variable {W w:World} {c:Cg} {sy:Nat} {F:List Nat} {S:Mst} {kb pb qb:Nat} {Q:Co} (h:CS W w c sy F S kb pb qb Q)
include h
theorem CS.old:∀k∈F,k<w.heap.size:=Mem.old h.ms
theorem CS.keep0 {w':World} (hc:Chg [] w w'):CS W w' c sy F S kb pb qb Q:=⟨Mem.keep h.ms hc,h.co.keep0 hc,h.nk,h.np,h.nq,h.lk,h.lp,h.lq⟩
theorem CS.core {w':World} {Q':Co} (hc:Chg [kb,pb,qb] w w') (hC:Cor w' kb pb qb Q'):CS W w' c sy F S kb pb qb Q':=
 ⟨Mem.keepL h.ms hc (by
  intro k hk
  simp only [List.mem_cons,Vn,or_false] at hk
  rcases hk with rfl|rfl|rfl
  ·exact h.nk
  ·exact h.np
  ·exact h.nq) (by
  intro k hk
  simp only [List.mem_cons,Vn,or_false] at hk
  rcases hk with rfl|rfl|rfl
  ·exact h.lk
  ·exact h.lp
  ·exact h.lq),hC,h.nk,h.np,h.nq,h.lk,h.lp,h.lq⟩
theorem CS.ofCo {Q':Co} {l:List Ev} {e:Ending} {w':World} (hd:CoTo w kb pb qb F Q' l e w'):CSTo W w c sy F kb pb qb S Q' l e w':=by
 obtain ⟨v,he,h1,h2,h3⟩:=hd
 exact ⟨v,F,he,h1,h.core h3 h2,h3.mono (by intro x hx;left;simp only [List.mem_cons,Vn,or_false] at hx ⊢;rcases hx with rfl|rfl|rfl<;>simp),fun k hk=>.inl hk⟩
theorem CS.step {S':Mst} {w':World} (m:MTS W w c sy F S' w'):∃F',CS W w' c sy F' S' kb pb qb Q∧Chg F w w'∧∀k∈F',k∈F∨w.heap.size≤k:=by
 obtain ⟨F',hm,hc,hk⟩:=m
 have ne:∀b,b∉F→b<w.heap.size→b∉F':=fun b hb hl hm=>by
  rcases hk b hm with h1|h1
  ·exact hb h1
  ·omega
 exact ⟨F',⟨hm,h.co.keep hc h.nk h.np h.nq,ne _ h.nk h.co.oldk.lt,ne _ h.np h.co.oldp.lt,ne _ h.nq h.co.oldq.lt,h.lk,h.lp,h.lq⟩,hc,hk⟩
end
theorem CSTo.from {W w w4:World} {c:Cg} {sy:Nat} {F F4:List Nat} {kb pb qb:Nat} {S':Mst} {Q':Co} {l:List Ev} {e:Ending} {w':World} (hc:Chg (kb::pb::qb::F) w w4) (hF:∀k∈F4,k∈F∨w.heap.size≤k) (h:CSTo W w4 c sy F4 kb pb qb S' Q' l e w'):CSTo W w c sy F kb pb qb S' Q' l e w':=by
 obtain ⟨v,F',he,h1,h2,h3,h4⟩:=h
 refine ⟨v,F',he,evv_mono h1 hc.size,h2,hc.trans' h3 ?_,?_⟩
 ·intro x hx
  simp only [List.mem_cons] at hx ⊢
  rcases hx with rfl|rfl|rfl|hx
  ·simp
  ·simp
  ·simp
  ·rcases hF x hx with h5|h5
   ·exact .inl (.inr (.inr (.inr h5)))
   ·exact .inr h5
 ·intro k hk
  rcases h4 k hk with h5|h5
  ·exact hF k h5
  ·exact .inr (Nat.le_trans hc.size h5)
theorem ZS {kb pb qb:Nat} {F:List Nat} {w w':World} (hc:Chg [kb,pb,qb] w w'):Chg (kb::pb::qb::F) w w':=hc.mono (by intro x hx;left;simp only [List.mem_cons,Vn,or_false] at hx ⊢;rcases hx with rfl|rfl|rfl<;>simp)
theorem Qba {kb pb qb:Nat} {F:List Nat} {w w':World} (hc:Chg F w w'):Chg (kb::pb::qb::F) w w':=hc.mono (by intro x hx;left;simp [hx])
theorem Cor.setReg {w:World} {kb pb qb:Nat} {Q:Co} (h:Cor w kb pb qb Q) {a:Nat} (ha:a<8) {v:Int} (hv:0≤v):Cor (w.setCell ⟨kb,2+a,none⟩ (.int .u64 v)) kb pb qb (setR Q a v):=by
 have hc:=(Chg.refl [kb] w).setCell kb (2+a) (.int .u64 v) (.inl (by simp))
 refine ⟨?_,h.steps.keep hc (by simp [h.kp.symm]),h.buf.keep hc (by simp [h.kq.symm]),h.kp,h.kq,h.pq,⟨by show (Q.rg.set _ v).length=8;rw [List.length_set];exact h.ok.h8,h.ok.pc,h.ok.np,h.ok.pr,h.ok.wt,h.ok.id,h.ok.pos.setR a hv⟩⟩
 rw [heap_setCell,if_pos rfl,h.own,Qf,QP h.ok.h8 _ _ _ _ _ _ _ ha]
 rfl
section
variable {W w:World} {c:Cg} {sy n:Nat} {F:List Nat} {S:Mst} {cur:Nat→List Int} {kb pb qb:Nat} {Q:Co} (h:CS W w c sy F S kb pb qb Q) (hI:Inv c n S cur) (hN:NN cur) (hn:n≤1000000000) (hR:Roomy c S) (hT:Tab W)
include h hI hN hn hR hT
theorem eload (a:Int) (ha:0≤a∧a<8) (li wo:Int) (hp:Q.pc<2147483648):Calls Tryz.prog 149 #[.pointer (some ⟨kb,0,none⟩),.pointer (some ⟨sy,0,none⟩),.int .i64 a,.int .i64 li,.int .i64 wo] w (CSTo W w c sy F kb pb qb (Qf7 c S Q a li wo).S (Qf7 c S Q a li wo).Q (Qf7 c S Q a li wo).ev):=by
 obtain ⟨na,rfl⟩:∃n:Nat,a=(n:Int):=⟨a.toNat,by omega⟩
 have la:na<8:=by omega
 have la':(na:Int)<8:=by omega
 have h8:=h.co.ok.h8
 have hb:=h.co.own
 have H:=Vh h
 have HP:=Vh hp
 have SF:=Vh (sfind_ok li wo h.co.buf)
 unfold Qf7
 cases hf:fdO Q.es li wo with
 |some x=>
  have hv0:0≤x.va:=h.co.ok.pos.es x (fdO_mem hf)
  have HV:=Vh hv0
  rw [show fdV Q.es li wo=x.va by unfold fdV;rw [hf],show fdB Q.es li wo=true by unfold fdB;rw [hf];rfl] at SF
  show Calls _ _ _ _ (CSTo W w c sy F kb pb qb S (Yo (setR Q na x.va)) [evC Q 2 li wo x.va])
  clear h hI hN hn hR hT hf hv0 ha hp
  generalize x.va=v at *
  go_enter Tryz.func149,Tryz.ntmps149
  try dsimp only [List.append]
  go_wp2_with (go_at_call 201;refine SF.out.mono ?_;rintro e w1 ⟨rfl,c1⟩;have hb1:=c1.keep hb (by simp);have H1:=Vh (H.out.keep0 c1);have HC1:=Vh (show Chg (kb::pb::qb::F) w w1 from c1.mono (by simp));have HF1:=Vh (show ∀k∈F,k∈F∨w.heap.size≤k from fun k hk=>.inl hk);clear c1 hb)
  have HCO:=Vh (H1.out.co.setReg la HV.out)
  refine (Qcv HCO.out.own 2 li wo v).mono ?_
  rintro e w3 ⟨rfl,c3⟩
  have HC3:=Vh c3
  clear c3
  go_wp2_with fail
  refine (Qfm HCO.out (F:=F) (fun k hk=>by have:=H1.out.old k hk;simp;omega) HC3.out _ HP.out).mono ?_
  rintro e w4 ⟨u,rfl,hv⟩
  go_wp2_with fail
  go_ret
  exact CSTo.from HC1.out HF1.out (H1.out.ofCo (CoTo.from ((Chg.refl [kb,pb,qb] w1).setCell kb (2+na) (.int .u64 v) (.inl (by simp))) ⟨u,rfl,hv⟩))
 |none=>
  rw [show fdV Q.es li wo=0 by unfold fdV;rw [hf],show fdB Q.es li wo=false by unfold fdB;rw [hf];rfl] at SF
  have UL:=Vh (fun (w1:World) (c1:Chg [] w w1)=>uload (h.keep0 c1).ms hI hn hR hT Q.id li wo)
  have HV0:=Vh (fun hh=>NN.load hI hN (k:=Q.id) (li:=li) (wd:=wo) hh)
  dsimp only
  generalize (loadM c S Q.id li wo).1=S1 at *
  generalize (loadM c S Q.id li wo).2.v=v at *
  generalize (loadM c S Q.id li wo).2.hit=hit at *
  cases hit
  ·show Calls _ _ _ _ (CSTo W w c sy F kb pb qb S1 Q [])
   clear h hI hN hn hR hT hf ha hp
   go_enter Tryz.func149,Tryz.ntmps149
   try dsimp only [List.append]
   go_wp2_with (first |(go_at_call 201;refine SF.out.mono ?_;rintro e w1 ⟨rfl,c1⟩;have hb1:=c1.keep hb (by simp);have HC1:=Vh c1;clear c1 hb)|(go_at_call 202;refine (UL.out _ HC1.out).mono ?_;rintro e w2 ⟨rfl,m2⟩;have HM2:=Vh m2;clear m2))
   go_ret
   obtain ⟨F2,h2,c2,k2⟩:=(H.out.keep0 HC1.out).step HM2.out
   exact CSTo.from (F4:=F2) ((HC1.out.mono (by simp)).trans (Qba c2)) (fun k hk=>(k2 k hk).imp id (Nat.le_trans HC1.out.size)) ⟨_,F2,rfl,EvV.nil ..,h2,Chg.refl _ _,fun k hk=>.inl hk⟩
  ·have HV:=Vh (HV0.out rfl)
   show Calls _ _ _ _ (CSTo W w c sy F kb pb qb S1 (Yo (setR Q na v)) [evC Q 1 li wo v])
   clear h hI hN hn hR hT hf ha hp
   go_enter Tryz.func149,Tryz.ntmps149
   try dsimp only [List.append]
   go_wp2_with (first |(go_at_call 201;refine SF.out.mono ?_;rintro e w0 ⟨rfl,c1⟩;have hb1:=c1.keep hb (by simp);have HC0:=Vh c1;clear c1 hb)|(go_at_call 202;refine (UL.out _ HC0.out).mono ?_;rintro e w1 ⟨rfl,m2⟩;obtain ⟨F2,h2,c2,k2⟩:=(H.out.keep0 HC0.out).step m2;have hb2:=h2.co.own;have H1:=Vh h2;have HC1:=Vh (show Chg (kb::pb::qb::F) w w1 from (HC0.out.mono (by simp)).trans (Qba c2));have HF1:=Vh (show ∀k∈F2,k∈F∨w.heap.size≤k from fun k hk=>(k2 k hk).imp id (Nat.le_trans HC0.out.size));clear m2 h2 c2 k2 hb1))
   have HCO:=Vh (H1.out.co.setReg la HV.out)
   refine (Qcv HCO.out.own 1 li wo v).mono ?_
   rintro e w3 ⟨rfl,c3⟩
   have HC3:=Vh c3
   clear c3
   go_wp2_with fail
   refine (Qfm HCO.out (F:=F2) (fun k hk=>by have:=H1.out.old k hk;simp;omega) HC3.out _ HP.out).mono ?_
   rintro e w4 ⟨u,rfl,hv⟩
   go_wp2_with fail
   go_ret
   exact CSTo.from HC1.out HF1.out (H1.out.ofCo (CoTo.from ((Chg.refl [kb,pb,qb] w1).setCell kb (2+na) (.int .u64 v) (.inl (by simp))) ⟨u,rfl,hv⟩))
end
end
section
theorem casked (kd:Int) (w:World):Calls Tryz.prog 155 #[.int .i64 kd] w fun e w'=>e=.returned (.int .i64 (JK kd))∧w=w':=by
 unfold JK
 by_cases h:kd=12
 ·rw [if_pos h]
  subst h
  go_enter Tryz.func155,Tryz.ntmps155
  go_wp2
  go_ret
  exact ⟨rfl,rfl⟩
 ·rw [if_neg h]
  have h1:(kd==12)=false:=by simpa using h
  clear h
  go_enter Tryz.func155,Tryz.ntmps155
  go_wp2
  go_ret
  exact ⟨rfl,rfl⟩
theorem Cor.setWt {w:World} {kb pb qb:Nat} {Q:Co} (h:Cor w kb pb qb Q) {n:Nat} {v:Int} (hv:v=n) (hn:n≤16):Cor (w.setCell ⟨kb,13,none⟩ (.int .i64 v)) kb pb qb {Q with wt:=n}:=by
 subst hv
 have hc:=(Chg.refl [kb] w).setCell kb 13 (.int .i64 n) (.inl (by simp))
 refine ⟨?_,h.steps.keep hc (by simp [h.kp.symm]),h.buf.keep hc (by simp [h.kq.symm]),h.kp,h.kq,h.pq,⟨h.ok.h8,h.ok.pc,h.ok.np,h.ok.pr,hn,h.ok.id,⟨h.ok.pos.rg,h.ok.pos.es⟩⟩⟩
 rw [heap_setCell,if_pos rfl,h.own,Qf,QX h.ok.h8]
section
variable {W w:World} {c:Cg} {sy n:Nat} {F:List Nat} {S:Mst} {cur:Nat→List Int} {kb pb qb:Nat} {Q:Co} (h:CS W w c sy F S kb pb qb Q) (hI:Inv c n S cur) (hn:n≤1000000000) (hR:Roomy c S) (hT:Tab W) {x:Se} {rest:List Se} (hes:Q.es=x::rest)
include h hI hn hR hT hes
theorem estore:Calls Tryz.prog 118 #[.pointer (some ⟨kb,0,none⟩),.pointer (some ⟨sy,0,none⟩),.agg (sec x)] w (CSTo W w c sy F kb pb qb (storeM c S Q.id x.li x.wo x.va).1 (if (storeM c S Q.id x.li x.wo x.va).2.hit then {Q with es:=rest} else Q) (if (storeM c S Q.id x.li x.wo x.va).2.hit then [evC Q 3 x.li x.wo x.va] else [])):=by
 have hs:(w.alloc (.cells (sec x) 177)).heap[w.heap.size]? =some (.cells (sec x) 177 (0,0)):=by simp
 have HCH:Chg [] w (w.alloc (.cells (sec x) 177)):=(Chg.refl [] w).alloc _
 have HN:=Vh (show w.heap.size≠kb∧w.heap.size∉F∧w.heap.size≠qb from ⟨by have:=h.co.oldk.lt;omega,fun hm=>by have:=h.old _ hm;omega,by have:=h.co.oldq.lt;omega⟩)
 have H1:=Vh (h.keep0 HCH)
 have hb1:=H1.out.co.own
 have h8:=h.co.ok.h8
 have US:=Vh (fun (w':World) (c1:Chg [] (w.alloc (.cells (sec x) 177)) w')=>ustore (H1.out.keep0 c1).ms hI hn hR hT Q.id x.li x.wo x.va)
 have HES:=Vh hes
 have HPE:=Vh (show ∀e∈rest,0≤e.va from fun e he=>h.co.ok.pos.es e (by rw [hes];exact List.mem_cons_of_mem _ he))
 have HC1:=Vh HCH
 clear h hI hn hR hT hes HCH
 generalize hw1:w.alloc (.cells (sec x) 177)=w1 at *
 generalize hz:w.heap.size=p at *
 generalize (storeM c S Q.id x.li x.wo x.va).1=S1 at *
 generalize (storeM c S Q.id x.li x.wo x.va).2.hit=hit at *
 have ok1:=old hb1
 have op1:=old hs
 have n1:¬p=kb:=HN.out.1
 have n2:¬kb=p:=fun e=>HN.out.1 e.symm
 cases hit
 ·show Calls _ _ _ _ (CSTo W w c sy F kb pb qb S1 Q [])
  go_enter Tryz.func118,Tryz.ntmps118
  go_wp2_with fail
  go_region_held3 (fun w'=>w'.heap[kb]? =some (.cells (coc Q.id Q.ru Q.rg pb Q.pr.length Q.pc qb Q.wt) 136 (0,0))∧w'.heap[p]? =some (.cells (sec x) 177 (0,0)))
   (first |exact ⟨hb1,hs⟩|exact ⟨h4.co.own,c4.keep hs HN.out.2.1⟩)
   (first
    |(go_at_call 152;refine (US.out _ ((Chg.refl [] w1).drew)).mono ?_;rintro e w4 ⟨rfl,m4⟩;obtain ⟨F4,h4,c4,k4⟩:=(H1.out.keep0 ((Chg.refl [] w1).drew)).step m4))
  all_goals
   rename World=>w4
   rename _∧_=>hHeld
   have H4:=Vh h4
   have HG4:=Vh (show Chg (kb::pb::qb::F) w w4 from (HC1.out.mono (by simp)).trans (((Chg.refl _ w1).drew).trans (Qba c4)))
   have HK4:=Vh (show ∀k∈F4,k∈F∨w.heap.size≤k from fun k hk=>(k4 k hk).imp id (Nat.le_trans HC1.out.size))
   clear hHeld c4 h4 k4 m4 hs hb1
   go_wp2_with fail
   go_ret
   exact CSTo.from HG4.out HK4.out ⟨_,F4,rfl,EvV.nil ..,H4.out,Chg.refl _ _,fun k hk=>.inl hk⟩
 ·show Calls _ _ _ _ (CSTo W w c sy F kb pb qb S1 {Q with es:=rest} [evC Q 3 x.li x.wo x.va])
  go_enter Tryz.func118,Tryz.ntmps118
  go_wp2_with fail
  go_region_held3 (fun w'=>w'.heap[kb]? =some (.cells (coc Q.id Q.ru Q.rg pb Q.pr.length Q.pc qb Q.wt) 136 (0,0))∧w'.heap[p]? =some (.cells (sec x) 177 (0,0)))
   (first |exact ⟨hb1,hs⟩|exact ⟨h4.co.own,c4.keep hs HN.out.2.1⟩)
   (first
    |(go_at_call 152;refine (US.out _ ((Chg.refl [] w1).drew)).mono ?_;rintro e w4 ⟨rfl,m4⟩;obtain ⟨F4,h4,c4,k4⟩:=(H1.out.keep0 ((Chg.refl [] w1).drew)).step m4))
  all_goals
   rename World=>w4
   rename _∧_=>hHeld
   have hb4:=hHeld.1
   have hs4:=hHeld.2
   have H4:=Vh h4
   have HG4:=Vh (show Chg (kb::pb::qb::F) w w4 from (HC1.out.mono (by simp)).trans (((Chg.refl _ w1).drew).trans (Qba c4)))
   have HK4:=Vh (show ∀k∈F4,k∈F∨w.heap.size≤k from fun k hk=>(k4 k hk).imp id (Nat.le_trans HC1.out.size))
   clear hHeld c4 h4 k4 m4 hs hb1
   go_wp2_with fail
   refine (spop_ok H4.out.co.buf).mono ?_
   rintro e w5 ⟨rfl,c5,b5⟩
   rw [show Q.es.tail=rest by rw [HES.out];rfl] at b5
   have HC5:=Vh (H4.out.co.entries c5 b5 HPE.out)
   have HG5:=Vh c5
   have hb5:=HC5.out.own
   have hs5:=c5.keep hs4 (by simpa using HN.out.2.2)
   clear c5 b5 hb4 hs4
   go_wp2_with fail
   refine (Qcv hb5 3 x.li x.wo x.va).mono ?_
   rintro e w6 ⟨rfl,c6⟩
   have HC6:=Vh c6
   clear c6
   go_wp2_with fail
   go_ret
   have c7:Chg [] w5 (w6.alloc (.cells (evc ⟨3,Q.id,x.li,x.wo,x.va⟩) 48)):=HC6.out.alloc _
   have hk:=H4.out.co.oldk.lt
   have hs:=HC6.out.size
   have hg:=HG5.out.size
   refine CSTo.from HG4.out HK4.out (H4.out.ofCo (CoTo.from (HG5.out.mono (by simp)) ⟨_,rfl,EvV.one (by simp;rfl) (by omega) hs (fun hm=>by have:=H4.out.old _ hm;omega),HC5.out.keep0 c7,c7.mono (by simp)⟩))
theorem esend:Calls Tryz.prog 120 #[.pointer (some ⟨kb,0,none⟩),.pointer (some ⟨sy,0,none⟩),.agg (sec x)] w (CSTo W w c sy F kb pb qb (if 16≤Q.wt then S else (flushM c S Q.id x.li (JK x.kd)).1) (if 16≤Q.wt then Q else if (flushM c S Q.id x.li (JK x.kd)).2.e=0 then {Q with es:=(if x.kd=14 then sent x::rest else rest),wt:=Q.wt+1} else Q) (if 16≤Q.wt then [] else if (flushM c S Q.id x.li (JK x.kd)).2.e=0 then [evC Q 13 x.li 0 0] else [])):=by
 have hs:(w.alloc (.cells (sec x) 177)).heap[w.heap.size]? =some (.cells (sec x) 177 (0,0)):=by simp
 have HCH:Chg [] w (w.alloc (.cells (sec x) 177)):=(Chg.refl [] w).alloc _
 have HN:=Vh (show w.heap.size≠kb∧w.heap.size∉F∧w.heap.size≠qb from ⟨by have:=h.co.oldk.lt;omega,fun hm=>by have:=h.old _ hm;omega,by have:=h.co.oldq.lt;omega⟩)
 have H1:=Vh (h.keep0 HCH)
 have hb1:=H1.out.co.own
 have h8:=h.co.ok.h8
 have US:=Vh (fun (w':World) (c1:Chg [] (w.alloc (.cells (sec x) 177)) w')=>uflush (H1.out.keep0 c1).ms hI hn hR hT Q.id x.li (JK x.kd))
 have HES:=Vh hes
 have HPE:=Vh (show ∀e∈rest,0≤e.va from fun e he=>h.co.ok.pos.es e (by rw [hes];exact List.mem_cons_of_mem _ he))
 have HPX:=Vh (show 0≤x.va from h.co.ok.pos.es x (by rw [hes];exact List.mem_cons_self))
 have HC1:=Vh HCH
 have hwt:decide (16≤(Q.wt:Int))=decide (16≤Q.wt):=by rw [Bool.eq_iff_iff];simp;omega
 clear h hI hn hR hT hes HCH
 generalize hw1:w.alloc (.cells (sec x) 177)=w1 at *
 generalize hz:w.heap.size=p at *
 generalize (flushM c S Q.id x.li (JK x.kd)).1=S1 at *
 generalize (flushM c S Q.id x.li (JK x.kd)).2.e=fe at *
 generalize hwi:(Q.wt:Int)=wi at hb1 hwt
 have HWI:=Vh hwi
 clear hwi
 have ok1:=old hb1
 have op1:=old hs
 have n1:¬p=kb:=HN.out.1
 have n2:¬kb=p:=fun e=>HN.out.1 e.symm
 by_cases h16:16≤Q.wt
 ·rw [if_pos h16,if_pos h16,if_pos h16]
  rw [decide_eq_true h16] at hwt
  clear h16
  go_enter Tryz.func120,Tryz.ntmps120
  try dsimp only [List.append]
  go_wp2_with fail
  go_quiet (fail)
  go_wp2_with fail
  go_ret
  have hc:=HC1.out.drewN nq
  exact ⟨_,F,rfl,EvV.nil ..,H1.out.keep0 ((Chg.refl [] w1).drewN nq),hc.mono (by simp),fun k hk=>.inl hk⟩
 ·rw [if_neg h16,if_neg h16,if_neg h16]
  rw [decide_eq_false h16] at hwt
  have H16:=Vh h16
  clear h16
  by_cases hf:fe=0
  ·subst hf
   rw [if_pos rfl,if_pos rfl]
   generalize hE:(if x.kd=14 then sent x::rest else rest)=es'
   have HE:=Vh hE
   clear hE
   have HW:=Vh (show Q.wt+1≤16 by have:=H16.out;omega)
   have hr1: -9223372036854775808≤wi+1:=by have:=HWI.out;omega
   have hr2:wi+1≤9223372036854775807:=by have:=HW.out;have:=HWI.out;omega
   go_enter Tryz.func120,Tryz.ntmps120
   try dsimp only [List.append]
   go_wp2_with fail
   go_region_held3 (fun w'=>w'.heap[kb]? =some (.cells (coc Q.id Q.ru Q.rg pb Q.pr.length Q.pc qb wi) 136 (0,0))∧w'.heap[p]? =some (.cells (sec x) 177 (0,0)))
    (first |exact ⟨hb1,hs⟩|exact ⟨(by rw [←HWI.out];exact h4.co.own),c4.keep hs HN.out.2.1⟩)
    (first
     |(go_at_call 155;refine (casked x.kd _).mono ?_;rintro e w' ⟨rfl,rfl⟩)
     |(go_at_call 154;refine (US.out _ ((Chg.refl [] w1).drew)).mono ?_;rintro e w4 ⟨rfl,m4⟩;obtain ⟨F4,h4,c4,k4⟩:=(H1.out.keep0 ((Chg.refl [] w1).drew)).step m4))
   all_goals
    rename World=>w4
    rename _∧_=>hHeld
    have hb4:=hHeld.1
    have hs4:=hHeld.2
    have H4:=Vh h4
    have HG4:=Vh (show Chg (kb::pb::qb::F) w w4 from (HC1.out.mono (by simp)).trans (((Chg.refl _ w1).drew).trans (Qba c4)))
    have HK4:=Vh (show ∀k∈F4,k∈F∨w.heap.size≤k from fun k hk=>(k4 k hk).imp id (Nat.le_trans HC1.out.size))
    clear hHeld c4 h4 k4 m4 hs hb1
    have HC5:=Vh (H4.out.co.setWt (show wi+1=((Q.wt+1:Nat):Int) by have:=HWI.out;omega) HW.out)
    have HG5:=Vh ((Chg.refl [kb] w4).setCell kb 13 (.int .i64 (wi+1)) (.inl (by simp)))
    have hs5:(w4.setCell ⟨kb,13,none⟩ (.int .i64 (wi+1))).heap[p]? =some (.cells (sec x) 177 (0,0)):=HG5.out.keep hs4 (by simpa using n1)
    have hb5:=HC5.out.own
    have o5:=old hs5
    have ok5:=old hb5
    generalize hw5:w4.setCell ⟨kb,13,none⟩ (.int .i64 (wi+1))=w5 at *
    by_cases h14:x.kd=14
    ·have HE':=HE.out
     rw [if_pos h14] at HE'
     subst HE'
     have hk14:(x.kd==14)=true:=by simp [h14]
     have HSD:=Vh (show sdE Q.es=sent x::rest by rw [HES.out];show (if x.kd=14 then _ else _)=_;rw [if_pos h14])
     clear h14
     go_wp2_with fail
     refine (ssend_ok HC5.out.buf).mono ?_
     rintro e w6 ⟨rfl,c6,b6⟩
     have HSD':=HSD.out
     rw [show ({Q with wt:=Q.wt+1}:Co).es=Q.es from rfl,HSD'] at b6
     have HC6:=Vh (HC5.out.entries c6 b6 (fun e he=>(List.mem_cons.1 he).elim (fun h1=>h1▸HPX.out) (fun h1=>HPE.out e h1)))
     have HG6:=Vh c6
     have hb6:=HC6.out.own
     have hs6:=c6.keep hs5 (by simpa using HN.out.2.2)
     clear c6 b6 hb4 hs4 hb5 hs5 hw5
     go_wp2_with fail
     refine (Qcv hb6 13 x.li 0 0).mono ?_
     rintro e w7 ⟨rfl,c7⟩
     have HC7:=Vh c7
     clear c7
     go_wp2_with fail
     go_ret
     have c8:Chg [] w6 (w7.alloc (.cells (evc ⟨13,Q.id,x.li,0,0⟩) 48)):=HC7.out.alloc _
     have hk:=H4.out.co.oldk.lt
     have hsz:=HC7.out.size
     have hg:=HG6.out.size
     have hg5:=HG5.out.size
     refine CSTo.from HG4.out HK4.out (H4.out.ofCo (CoTo.from ((HG5.out.mono (by simp)).trans (HG6.out.mono (by simp))) ⟨_,rfl,EvV.one (by simp;rfl) (by omega) hsz (fun hm=>by have:=H4.out.old _ hm;omega),HC6.out.keep0 c8,c8.mono (by simp)⟩))
    ·have HE':=HE.out
     rw [if_neg h14] at HE'
     subst HE'
     have hk14:(x.kd==14)=false:=by simp [h14]
     have HSD:=Vh (show Q.es.tail=rest by rw [HES.out];rfl)
     clear h14
     go_wp2_with fail
     refine (spop_ok HC5.out.buf).mono ?_
     rintro e w6 ⟨rfl,c6,b6⟩
     have HSD':=HSD.out
     rw [show ({Q with wt:=Q.wt+1}:Co).es=Q.es from rfl,HSD'] at b6
     have HC6:=Vh (HC5.out.entries c6 b6 HPE.out)
     have HG6:=Vh c6
     have hb6:=HC6.out.own
     have hs6:=c6.keep hs5 (by simpa using HN.out.2.2)
     clear c6 b6 hb4 hs4 hb5 hs5 hw5
     go_wp2_with fail
     refine (Qcv hb6 13 x.li 0 0).mono ?_
     rintro e w7 ⟨rfl,c7⟩
     have HC7:=Vh c7
     clear c7
     go_wp2_with fail
     go_ret
     have c8:Chg [] w6 (w7.alloc (.cells (evc ⟨13,Q.id,x.li,0,0⟩) 48)):=HC7.out.alloc _
     have hk:=H4.out.co.oldk.lt
     have hsz:=HC7.out.size
     have hg:=HG6.out.size
     have hg5:=HG5.out.size
     refine CSTo.from HG4.out HK4.out (H4.out.ofCo (CoTo.from ((HG5.out.mono (by simp)).trans (HG6.out.mono (by simp))) ⟨_,rfl,EvV.one (by simp;rfl) (by omega) hsz (fun hm=>by have:=H4.out.old _ hm;omega),HC6.out.keep0 c8,c8.mono (by simp)⟩))
  ·have hfe:(fe !=0)=true:=by simpa using hf
   rw [if_neg hf,if_neg hf]
   clear hf
   go_enter Tryz.func120,Tryz.ntmps120
   try dsimp only [List.append]
   go_wp2_with fail
   go_region_held3 (fun w'=>w'.heap[kb]? =some (.cells (coc Q.id Q.ru Q.rg pb Q.pr.length Q.pc qb wi) 136 (0,0))∧w'.heap[p]? =some (.cells (sec x) 177 (0,0)))
    (first |exact ⟨hb1,hs⟩|exact ⟨(by rw [←HWI.out];exact h4.co.own),c4.keep hs HN.out.2.1⟩)
    (first
     |(go_at_call 155;refine (casked x.kd _).mono ?_;rintro e w' ⟨rfl,rfl⟩)
     |(go_at_call 154;refine (US.out _ ((Chg.refl [] w1).drew)).mono ?_;rintro e w4 ⟨rfl,m4⟩;obtain ⟨F4,h4,c4,k4⟩:=(H1.out.keep0 ((Chg.refl [] w1).drew)).step m4))
   all_goals
    rename World=>w4
    rename _∧_=>hHeld
    have hb4:=hHeld.1
    have hs4:=hHeld.2
    have H4:=Vh h4
    have HG4:=Vh (show Chg (kb::pb::qb::F) w w4 from (HC1.out.mono (by simp)).trans (((Chg.refl _ w1).drew).trans (Qba c4)))
    have HK4:=Vh (show ∀k∈F4,k∈F∨w.heap.size≤k from fun k hk=>(k4 k hk).imp id (Nat.le_trans HC1.out.size))
    clear hHeld c4 h4 k4 m4 hs hb1
    go_wp2_with fail
    go_ret
    exact CSTo.from HG4.out HK4.out ⟨_,F4,rfl,EvV.nil ..,H4.out,Chg.refl _ _,fun k hk=>.inl hk⟩
end
end
section
def evzV:Value:=.agg (evc evZ)
theorem evzV_size:evzV.cells.size=5:=rfl
theorem evzV_one:∀v∈evzV.cells,v.oneCell'=true:=by intro v hv;simp [evzV,Value.cells,evc,Ev.enc] at hv;rcases hv with rfl|rfl|rfl|rfl|rfl<;>rfl
theorem ev_info:(Tryz.prog.info? 48).map (fun i=>(i.zero,i.size,i.bytes))=some (some evzV,5,40):=by kernel_rfl
theorem eltEv:Elt Tryz.prog 41 48 5 40 evzV Ev.enc where
 slice:=Tryz.underlying41
 info:=ev_info
 zero:=evzV_size
 zone:=evzV_one
 pos:=by omega
 len:=Ev.len
 one:=Ev.one
theorem at_no13 (n a:Int) (w:World) (h0:1≤n) (h1:n≤64) (g0:0≤a) (g3:a<18446744073709551616) (h:atB n a=false):Calls Tryz.prog 148 #[.int .i64 n,.int .u64 a] w fun e w'=>e=.returned (.tuple #[.int .i64 0,.int .i64 0,.int .i64 12])∧w=w':=by
 unfold atB at h
 by_cases g1:a % 8=0
 ·by_cases g2:a / 64<n
  ·simp [g1,g2] at h
  ·have t1:(a % 8 !=0)=false:=by simp [g1]
   have t2:decide (n≤a / 64)=true:=by simp;omega
   clear g1 g2 h
   go_enter Tryz.func148,Tryz.ntmps148
   go_wp2_with (go_at_call 81;refine (Zs _ _ _ _ h0 h1).mono ?_;rintro e w' ⟨rfl,rfl⟩)
   go_ret3
   exact ⟨rfl,rfl⟩
 ·exact at_odd n a w h0 h1 g0 g1
theorem at_yes13 (n a:Int) (w:World) (h0:1≤n) (h1:n≤64) (g0:0≤a) (h:atB n a=true):Calls Tryz.prog 148 #[.int .i64 n,.int .u64 a] w fun e w'=>e=.returned (.tuple #[.int .i64 (lineOf a),.int .i64 (wordOf a),.int .i64 0])∧w=w':=by
 unfold atB at h
 simp only [Bool.and_eq_true,beq_iff_eq,decide_eq_true_eq] at h
 exact at_ok n a w h0 h1 g0 h.1 h.2
theorem ev_append {w:World} {kb be1 be2:Nat} {e1 e2:Ev} (h1:w.heap[be1]? =some (.cells (evc e1) 48 (0,0))) (h2:w.heap[be2]? =some (.cells (evc e2) 48 (0,0))) (hk:be1≠kb) (hk2:be2≠kb) (ok:Old w kb):
 ∃be A cap w',appR Tryz.prog 41 41 #[.slice (some ⟨be1,0,none⟩) 1 1,.slice (some ⟨be2,0,none⟩) 1 1] w=.ok (.slice A 2 cap) w'∧Vec 5 48 Ev.enc w' kb be A cap [e1,e2]∧(be=be1∨w.heap.size≤be)∧Chg [be1] w w':=by
 have v1:Vec 5 48 Ev.enc w kb be1 (some ⟨be1,0,none⟩) 1 [e1]:=.inr ⟨hk,rfl,by simp,[],by rw [Qhs];exact h1,by simp⟩
 have v2:Vec 5 48 Ev.enc w kb be2 (some ⟨be2,0,none⟩) 1 [e2]:=.inr ⟨hk2,rfl,by simp,[],by rw [Qhs];exact h2,by simp⟩
 obtain ⟨be',cap',A',w',ha,hv,hb,hc,_⟩:=Vec.app (ty:=41) eltEv v1 ok (B:=some ⟨be2,0,none⟩) (m:=1) (c:=1) (ys:=[e2]) (v2.sl Ev.len) rfl (by show (1+1)*40≤_;omega) (by show 1+1≤_;decide)
 exact ⟨be',A',cap',w',ha,hv,hb,hc⟩
theorem cgfield_li (c:Cg) (w:World):(Instr.field 23 (.agg c.cells) 1).run Tryz.prog w=.ok (.int .i64 c.li) w:=by kernel_rfl
attribute [local go_sem ↓] cgfield_li
theorem putC_eq (S:Mst) (Q:Co) (kd:Int) (e:Se):putC S Q kd e=⟨S,if sbV Q.rm Q.es e=0 then Yo {Q with es:=sbE Q.rm Q.es e} else Q,if sbV Q.rm Q.es e=0 then [evC Q kd e.li e.wo e.va] else []⟩:=by unfold putC;split<;>rfl
theorem CS.keep1 {W w w':World} {c:Cg} {sy:Nat} {F:List Nat} {S:Mst} {kb pb qb b:Nat} {Q:Co} (h:CS W w c sy F S kb pb qb Q) (hc:Chg [b] w w') (h1:b∉F) (h2:b≠kb∧b≠pb∧b≠qb) (h3:W.heap.size≤b):CS W w' c sy F S kb pb qb Q:=
 ⟨Mem.keepL h.ms hc (fun k hk=>by rw [List.mem_singleton] at hk;subst hk;exact h1) (fun k hk=>by rw [List.mem_singleton] at hk;subst hk;exact h3),h.co.keep hc (by simpa using h2.1.symm) (by simpa using h2.2.1.symm) (by simpa using h2.2.2.symm),h.nk,h.np,h.nq,h.lk,h.lp,h.lq⟩
section
variable {W w:World} {c:Cg} {sy n:Nat} {F:List Nat} {S:Mst} {cur:Nat→List Int} {kb pb qb:Nat} {Q:Co} (h:CS W w c sy F S kb pb qb Q) (hI:Inv c n S cur) (hN:NN cur) (hn:n+1≤1000000000) (hR:Roomy c S) (hR2:∀li wo,Roomy c (loadM c S Q.id li wo).1) (hT:Tab W)
include h hI hN hn hR hR2 hT
theorem echange (i:Ins) (ha:0≤i.a∧i.a<8) (hc:0≤i.c∧i.c<8) (li wo:Int) (hp:Q.pc<2147483648):Calls Tryz.prog 151 #[.pointer (some ⟨kb,0,none⟩),.pointer (some ⟨sy,0,none⟩),.agg (insc i),.int .i64 li,.int .i64 wo] w (CSTo W w c sy F kb pb qb (Qaq c S Q i li wo).S (Qaq c S Q i li wo).Q (Qaq c S Q i li wo).ev):=by
 obtain ⟨na,hna⟩:∃n:Nat,i.a=(n:Int):=⟨i.a.toNat,by omega⟩
 have la:na<8:=by omega
 have la':(na:Int)<8:=by omega
 have h8:=h.co.ok.h8
 have hx:(w.alloc (.cells (insc i) 68)).heap[w.heap.size]? =some (.cells (insc i) 68 (0,0)):=by simp
 have HCH:Chg [] w (w.alloc (.cells (insc i) 68)):=(Chg.refl [] w).alloc _
 have HNE:=Vh (show w.heap.size≠kb∧w.heap.size∉F∧w.heap.size≠qb from ⟨by have:=h.co.oldk.lt;omega,fun hm=>by have:=h.old _ hm;omega,by have:=h.co.oldq.lt;omega⟩)
 have H1:=Vh (h.keep0 HCH)
 have hb1:=H1.out.co.own
 have HP:=Vh hp
 have HS1:=Vh (dsettled H1.out.co)
 have UR:=Vh (ureach H1.out.ms hI (by omega) hR hT Q.id li)
 have UL:=Vh (fun (w':World) (F':List Nat) (h':CS W w' c sy F' S kb pb qb Q)=>uload h'.ms hI (by omega) hR hT Q.id li wo)
 have US:=Vh (fun (w':World) (F':List Nat) (v:Int) (h':CS W w' c sy F' (loadM c S Q.id li wo).1 kb pb qb Q)=>ustore h'.ms (hI.loadM Q.id li wo) hn (hR2 li wo) hT Q.id li wo v)
 have HRH:=Vh (fun hh=>reach_hit hI hN h.co.ok.pos (Q:=Q) (k:=Q.id) (li:=li) hh)
 have HV:=Vh (loadV_pos hI hN Q.id li wo)
 have HC1:=Vh HCH
 unfold Qaq
 clear h hI hN hn hR hR2 hT hp HCH
 generalize hw1:w.alloc (.cells (insc i) 68)=w1 at *
 generalize hz:w.heap.size=p at *
 have ok1:=old hb1
 have op1:=old hx
 have n1:¬p=kb:=HNE.out.1
 have n2:¬kb=p:=fun e=>HNE.out.1 e.symm
 cases hs:Yu Q
 ·rw [hs] at HS1
  show Calls _ _ _ _ (CSTo W w c sy F kb pb qb S Q [])
  clear hs
  go_enter Tryz.func151,Tryz.ntmps151
  try dsimp only [List.append]
  go_wp2_with (go_at_call 146;refine HS1.out.mono ?_;rintro e w' ⟨rfl,rfl⟩)
  go_ret
  exact ⟨_,F,rfl,EvV.nil ..,H1.out,HC1.out.mono (by simp),fun k hk=>.inl hk⟩
 rw [hs] at HS1
 rw [if_pos rfl]
 clear hs
 cases hr:(reachM c S Q.id li).2.hit
 ·rw [hr] at UR
  show Calls _ _ _ _ (CSTo W w c sy F kb pb qb (reachM c S Q.id li).1 Q [])
  generalize (reachM c S Q.id li).1=S1 at *
  go_enter Tryz.func151,Tryz.ntmps151
  try dsimp only [List.append]
  go_wp2_with (first |(go_at_call 146;refine HS1.out.mono ?_;rintro e w' ⟨rfl,rfl⟩)|(go_at_call 204;refine UR.out.mono ?_;rintro e w2 ⟨rfl,m2⟩;have HM2:=Vh m2;clear m2))
  go_ret
  obtain ⟨F2,h2,c2,k2⟩:=H1.out.step HM2.out
  exact ⟨_,F2,rfl,EvV.nil ..,h2,(HC1.out.mono (by simp)).trans (Qba c2),fun k hk=>(k2 k hk).imp id (Nat.le_trans HC1.out.size)⟩
 rw [hr,HRH.out hr] at UR
 rw [if_pos rfl,HRH.out hr]
 clear hr HRH
 have HCG:=Vh (fun (w':World) (F':List Nat) (S':Mst) (h':CS W w' c sy F' S' kb pb qb Q)=>dchanged h'.co i ha hc (loadM c S Q.id li wo).2.v)
 generalize (loadM c S Q.id li wo).2.v=v at *
 generalize (loadM c S Q.id li wo).1=S1 at *
 have HVV:=Vh (show 0≤chgV Q i v from by unfold chgV;split;exact H1.out.co.ok.pos.reg _;exact Qcw _)
 generalize chgV Q i v=cv at *
 rw [hna]
 clear ha hc
 cases hcb:chgB Q i v
 ·rw [hcb] at HCG
  show Calls _ _ _ _ (CSTo W w c sy F kb pb qb S1 (Yo (setR Q na v)) [evC Q 4 li wo v])
  clear hcb
  go_enter Tryz.func151,Tryz.ntmps151
  try dsimp only [List.append]
  go_wp2_with (first |(go_at_call 146;refine HS1.out.mono ?_;rintro e w' ⟨rfl,rfl⟩)|(go_at_call 204;refine UR.out.mono ?_;rintro e w2 ⟨rfl,m2⟩;obtain ⟨F2,h2,c2,k2⟩:=H1.out.step m2;have H2:=Vh h2;have C2:=Vh c2;have K2:=Vh k2;have hx2:=c2.keep hx HNE.out.2.1;have hb2:=h2.co.own;clear m2 h2 c2 k2 hb1))
  have NP2:=Vh (show p∉F2 from fun hm=>(K2.out p hm).elim HNE.out.2.1 (fun hm2=>by have:=op1.lt;omega))
  clear hx
  refine (UL.out _ _ H2.out).mono ?_
  rintro e w3 ⟨rfl,m3⟩
  obtain ⟨F3,h3,c3,k3⟩:=H2.out.step m3
  have H3:=Vh h3
  have C3:=Vh c3
  have K3:=Vh k3
  have hx3:=C3.out.keep hx2 NP2.out
  have hb3:=h3.co.own
  clear m3 h3 c3 k3 hx2 hb2
  go_wp2_with fail
  refine (Qcv hb3 4 li wo v).mono ?_
  rintro e w4 ⟨rfl,c4⟩
  have C5:=Vh (show Chg [] w3 (w4.alloc (.cells (evc ⟨4,Q.id,li,wo,v⟩) 48)) from c4.alloc _)
  have he5:(w4.alloc (.cells (evc ⟨4,Q.id,li,wo,v⟩) 48)).heap[w4.heap.size]? =some (.cells (evc ⟨4,Q.id,li,wo,v⟩) 48 (0,0)):=by simp
  have HB5:=Vh (show w3.heap.size≤w4.heap.size from c4.size)
  have hx4:=c4.keep hx3 (by simp)
  have hb4:=c4.keep hb3 (by simp)
  have ox4:=old hx4
  have ob4:=old hb4
  clear c4
  go_wp2_with fail
  generalize hw5:w4.alloc (.cells (evc ⟨4,Q.id,li,wo,v⟩) 48)=w5 at *
  generalize hbe:w4.heap.size=be at *
  refine (HCG.out w5 F3 S1 (H3.out.keep0 C5.out)).mono ?_
  rintro e w6 ⟨rfl,c6⟩
  have C6:=Vh (C5.out.trans c6)
  have H6:=Vh (H3.out.keep0 C6.out)
  have he6:=c6.keep he5 (by simp)
  have hx6:=C6.out.keep hx3 (by simp)
  have hb6:=H6.out.co.own
  have o6:=old hx6
  have ok6:=old hb6
  clear c6 he5 hx3 hb3 hw5 hbe hx4 hb4 ox4 ob4
  go_wp2_with fail
  go_region
  all_goals
   go_wp2_with fail
   have hN6:=C6.out.size
   have HF6:=H6.out.old
   have hbk:be≠kb:=by have:=H3.out.co.oldk.lt;have:=HB5.out;omega
   have cS:Chg [kb] w6 (w6.setCell ⟨kb,2+na,none⟩ (.int .u64 v)).drew:=((Chg.refl [kb] w6).setCell kb _ _ (.inl (by simp))).drew
   have hC7:Cor (w6.setCell ⟨kb,2+na,none⟩ (.int .u64 v)).drew kb pb qb (setR Q na v):=(H6.out.co.setReg la HV.out).keep0 (Chg.refl [] _).drew
   have hE7:EvV (w6.setCell ⟨kb,2+na,none⟩ (.int .u64 v)).drew w3.heap.size kb F3 (.slice (some ⟨be,0,none⟩) 1 1) [evC Q 4 li wo v]:=EvV.one (cS.keep he6 (by simpa using hbk)) hbk HB5.out (fun hm=>by have:=H3.out.old _ hm;have:=HB5.out;omega)
   refine (dnext hC7 (F:=F3) (fun k hk=>by have:=HF6 k hk;have:=cS.size;omega) hE7 HP.out).mono ?_
   rintro e w8 ⟨rfl,h1,h2,h3⟩
   go_wp2_with fail
   go_ret
   exact CSTo.from (HC1.out.mono (by simp)) (fun k hk=>.inl hk) (CSTo.from (Qba C2.out) K2.out (CSTo.from (Qba C3.out) K3.out ⟨_,F3,rfl,h1,H6.out.core ((cS.mono (by simp)).trans (h3.mono (by simp))) h2,(C6.out.mono (by simp)).trans (ZS ((cS.mono (by simp)).trans (h3.mono (by simp)))),fun k hk=>.inl hk⟩))
 ·rw [hcb] at HCG
  rw [if_pos rfl]
  show Calls _ _ _ _ (CSTo W w c sy F kb pb qb (storeM c S1 Q.id li wo cv).1 (Yo (setR Q na v)) [evC Q 4 li wo v,evC Q 3 li wo cv])
  clear hcb
  go_enter Tryz.func151,Tryz.ntmps151
  try dsimp only [List.append]
  go_wp2_with (first |(go_at_call 146;refine HS1.out.mono ?_;rintro e w' ⟨rfl,rfl⟩)|(go_at_call 204;refine UR.out.mono ?_;rintro e w2 ⟨rfl,m2⟩;obtain ⟨F2,h2,c2,k2⟩:=H1.out.step m2;have H2:=Vh h2;have C2:=Vh c2;have K2:=Vh k2;have hx2:=c2.keep hx HNE.out.2.1;have hb2:=h2.co.own;clear m2 h2 c2 k2 hb1))
  have NP2:=Vh (show p∉F2 from fun hm=>(K2.out p hm).elim HNE.out.2.1 (fun hm2=>by have:=op1.lt;omega))
  clear hx
  refine (UL.out _ _ H2.out).mono ?_
  rintro e w3 ⟨rfl,m3⟩
  obtain ⟨F3,h3,c3,k3⟩:=H2.out.step m3
  have H3:=Vh h3
  have C3:=Vh c3
  have K3:=Vh k3
  have hx3:=C3.out.keep hx2 NP2.out
  have hb3:=h3.co.own
  clear m3 h3 c3 k3 hx2 hb2
  go_wp2_with fail
  refine (Qcv hb3 4 li wo v).mono ?_
  rintro e w4 ⟨rfl,c4⟩
  have C5:=Vh (show Chg [] w3 (w4.alloc (.cells (evc ⟨4,Q.id,li,wo,v⟩) 48)) from c4.alloc _)
  have he5:(w4.alloc (.cells (evc ⟨4,Q.id,li,wo,v⟩) 48)).heap[w4.heap.size]? =some (.cells (evc ⟨4,Q.id,li,wo,v⟩) 48 (0,0)):=by simp
  have HB5:=Vh (show w3.heap.size≤w4.heap.size from c4.size)
  have hx4:=c4.keep hx3 (by simp)
  have hb4:=c4.keep hb3 (by simp)
  have ox4:=old hx4
  have ob4:=old hb4
  clear c4
  go_wp2_with fail
  generalize hw5:w4.alloc (.cells (evc ⟨4,Q.id,li,wo,v⟩) 48)=w5 at *
  generalize hbe:w4.heap.size=be at *
  refine (HCG.out w5 F3 S1 (H3.out.keep0 C5.out)).mono ?_
  rintro e w6 ⟨rfl,c6⟩
  have C6:=Vh (C5.out.trans c6)
  have H6:=Vh (H3.out.keep0 C6.out)
  have he6:=c6.keep he5 (by simp)
  have hx6:=C6.out.keep hx3 (by simp)
  have hb6:=H6.out.co.own
  have o6:=old hx6
  have ok6:=old hb6
  have HPB:=Vh (show p≠be from by have:=(old hx3).lt;have:=HB5.out;omega)
  clear c6 he5 hx3 hb3 hw5 hbe hx4 hb4 ox4 ob4
  go_wp2_with fail
  have hbk:be≠kb:=by have:=H3.out.co.oldk.lt;have:=HB5.out;omega
  have hbF:be∉F3:=fun hm=>by have:=H3.out.old _ hm;have:=HB5.out;omega
  have HBK:=Vh hbk
  refine (US.out w6 F3 cv H6.out).mono ?_
  rintro e w7 ⟨rfl,m7⟩
  obtain ⟨F7,h7,c7,k7⟩:=H6.out.step m7
  have H7:=Vh h7
  have C7:=Vh c7
  have K7:=Vh k7
  have he7:=c7.keep he6 hbF
  have hx7:=c7.keep hx6 (fun hm=>(K3.out p hm).elim NP2.out (fun h=>by have:=(old hx6).lt;have h8:=C2.out.size;have h9:=HC1.out.size;have:=op1.lt;omega))
  have hb7:=h7.co.own
  have HBF:=Vh (show be∉F7 from fun hm=>(k7 be hm).elim hbF (fun h=>by have:=(old he6).lt;omega))
  clear m7 h7 c7 k7 he6 hx6 hb6 o6 ok6 hbk hbF
  go_wp2_with fail
  refine (Qcv hb7 3 li wo cv).mono ?_
  rintro e w8 ⟨rfl,c8⟩
  have C9:=Vh (show Chg [] w7 (w8.alloc (.cells (evc ⟨3,Q.id,li,wo,cv⟩) 48)) from c8.alloc _)
  have he9:=C9.out.keep he7 (by simp)
  have hx9:=C9.out.keep hx7 (by simp)
  have hb9:=C9.out.keep hb7 (by simp)
  have hf9:(w8.alloc (.cells (evc ⟨3,Q.id,li,wo,cv⟩) 48)).heap[w8.heap.size]? =some (.cells (evc ⟨3,Q.id,li,wo,cv⟩) 48 (0,0)):=by simp
  have HZ9:=Vh (show w7.heap.size≤w8.heap.size from c8.size)
  have hx8:=c8.keep hx7 (by simp)
  have hb8:=c8.keep hb7 (by simp)
  have he8:=c8.keep he7 (by simp)
  have ox8:=old hx8
  have ob8:=old hb8
  have oe8:=old he8
  obtain ⟨bq,Aq,cq,w10,happ,hvec,hbq,hcq⟩:=ev_append he9 hf9 HBK.out (by have:=(old hb7).lt;have:=HZ9.out;omega) (old hb9)
  have HVEC:=Vh hvec
  have HBQ:=Vh hbq
  have C10:=Vh hcq
  have hx10:=hcq.keep hx9 (show p∉[be] from by simpa using fun e=>HPB.out e)
  have hb10:=hcq.keep hb9 (show kb∉[be] from by simpa using fun e=>HBK.out e.symm)
  have ox10:=old hx10
  have ob10:=old hb10
  clear hvec hbq hcq c8 he7 hx7 hb7 he9 hx9 hb9 hf9
  go_wp2_with fail
  have hbp:be≠pb∧be≠qb:=by have:=H3.out.co.oldp.lt;have:=H3.out.co.oldq.lt;have:=HB5.out;omega
  have hWb:W.heap.size≤be:=by have:=H3.out.lk;have:=H3.out.co.oldk.lt;have:=HB5.out;omega
  have H10:=Vh ((H7.out.keep0 C9.out).keep1 C10.out HBF.out ⟨HBK.out,hbp⟩ hWb)
  have HE10:=Vh (show EvV w10 w3.heap.size kb F7 (.slice Aq 2 cq) [evC Q 4 li wo v,evC Q 3 li wo cv] from ⟨Aq,cq,bq,rfl,HVEC.out,.inr (by
   have e3:=HB5.out
   have e9:=C9.out.size
   have e7:=C7.out.size
   have e6:=C6.out.size
   rcases HBQ.out with e|e<;>omega),.inr (fun hm=>by
   have e9:=C9.out.size
   have e7:=H7.out.old _ hm
   rcases HBQ.out with e|e
   ·rw [e] at hm;exact HBF.out hm
   ·omega)⟩)
  clear hbp hWb happ hx8 hb8 he8 ox8 ob8 oe8
  go_region
  all_goals
   go_wp2_with fail
   have HF10:=H10.out.old
   have cS:Chg [kb] w10 (w10.setCell ⟨kb,2+na,none⟩ (.int .u64 v)).drew:=((Chg.refl [kb] w10).setCell kb _ _ (.inl (by simp))).drew
   have hC7:Cor (w10.setCell ⟨kb,2+na,none⟩ (.int .u64 v)).drew kb pb qb (setR Q na v):=(H10.out.co.setReg la HV.out).keep0 (Chg.refl [] _).drew
   refine (dnext hC7 (F:=F7) (fun k hk=>by have:=HF10 k hk;have:=cS.size;omega) (HE10.out.keep cS (fun x _ hx _=>by simpa using hx)) HP.out).mono ?_
   rintro e w11 ⟨rfl,h1,h2,h3⟩
   go_wp2_with fail
   go_ret
   have cA:Chg F3 w3 w10:=(((C6.out.mono (l':=F3) (by simp)).trans C7.out).trans (C9.out.mono (by simp))).trans' C10.out (fun x hx=>.inr (by
    rw [List.mem_singleton] at hx
    rw [hx]
    exact HB5.out))
   have cB:Chg [kb,pb,qb] w10 w11:=(cS.mono (by simp)).trans (h3.mono (by simp))
   exact CSTo.from (HC1.out.mono (by simp)) (fun k hk=>.inl hk) (CSTo.from (Qba C2.out) K2.out (CSTo.from (Qba C3.out) K3.out ⟨_,F7,rfl,h1,H10.out.core cB h2,(Qba cA).trans (ZS cB),fun k hk=>(K7.out k hk).imp id (Nat.le_trans C6.out.size)⟩))
theorem Qeu (i:Ins) (hg:YF i=true) (hop:i.op=8∨i.op=9∨i.op=10∨i.op=11∨i.op=12∨i.op=13∨i.op=14) (hp:Q.pc<2147483648):Calls Tryz.prog 116 #[.pointer (some ⟨kb,0,none⟩),.pointer (some ⟨sy,0,none⟩),.agg (insc i)] w (CSTo W w c sy F kb pb qb (Xk c S Q i).S (Xk c S Q i).Q (Xk c S Q i).ev):=by
 obtain ⟨_,ha,hb,hc,_,_⟩:=Zw hg
 obtain ⟨na,hna⟩:∃n:Nat,i.a=(n:Int):=⟨i.a.toNat,by omega⟩
 obtain ⟨nb,hnb⟩:∃n:Nat,i.b=(n:Int):=⟨i.b.toNat,by omega⟩
 have ea:regA Q i.a=regN Q.rg na:=by unfold regA;rw [hna,Int.toNat_natCast]
 have eb:regA Q i.b=regN Q.rg nb:=by unfold regA;rw [hnb,Int.toNat_natCast]
 have la:na<8:=by omega
 have lb:nb<8:=by omega
 have la':(na:Int)<8:=by omega
 have lb':(nb:Int)<8:=by omega
 have h8:=h.co.ok.h8
 have hx:(w.alloc (.cells (insc i) 68)).heap[w.heap.size]? =some (.cells (insc i) 68 (0,0)):=by simp
 have HCH:Chg [] w (w.alloc (.cells (insc i) 68)):=(Chg.refl [] w).alloc _
 have H1:=Vh (h.keep0 HCH)
 have hb1:=H1.out.co.own
 have HP:=Vh hp
 have HC1:=Vh HCH
 have HOP:=Vh hop
 have ad0:0≤Qfy Q i∧Qfy Q i<18446744073709551616:=by unfold Qfy;rw [Qgx];omega
 have AD:=Vh ad0
 have HLI:=Vh (show 1≤(c.li:Int)∧(c.li:Int)≤64 from ⟨by have:=hI.ok.li2;omega,by have:=hI.ok.li64;omega⟩)
 have EL:=Vh (fun (w':World) (h':CS W w' c sy F S kb pb qb Q) (li wo:Int)=>eload h' hI hN (by omega) hR hT (na:Int) (by omega) li wo hp)
 have EC:=Vh (fun (w':World) (h':CS W w' c sy F S kb pb qb Q) (li wo:Int)=>echange h' hI hN hn hR hR2 hT i ha hc li wo hp)
 have EP:=Vh (fun (w':World) (h':CS W w' c sy F S kb pb qb Q) (kd:Int) (x:Se) (hx:0≤x.va)=>show Calls _ _ _ _ (CSTo W w' c sy F kb pb qb (putC S Q kd x).S (putC S Q kd x).Q (putC S Q kd x).ev) from by rw [putC_eq];exact (dput h'.co h'.old kd x hx hp).mono fun e w' hd=>h'.ofCo hd)
 have ED:=Vh (fun (w':World) (h':CS W w' c sy F S kb pb qb Q) (kd:Int)=>(dend h'.co h'.old kd).mono fun e w' hd=>h'.ofCo hd)
 have EA:=Vh (show Qfy Q i=IntKind.u64.wrap (regN Q.rg nb+IntKind.u64.wrap i.im) from by unfold Qfy;rw [eb])
 have RP:=Vh (show 0≤regN Q.rg na from by have:=h.co.ok.pos.reg i.a;rw [ea] at this;exact this)
 have GS:=Vh (fun (w':World)=>gsum_any (regN Q.rg nb) i.im w')
 unfold Xk
 rw [ea]
 generalize hw1:w.alloc (.cells (insc i) 68)=w1 at *
 generalize hz:w.heap.size=p at *
 rw [←EA.out] at GS
 generalize Qfy Q i=ad at *
 have R1:∀y:Aft w1.heap.size w1,y.w.heap[p]? =some (.cells (insc i) 68 (0,0)):=fun y=>(y.block (old hx).lt).trans hx
 have R2:∀y:Aft w1.heap.size w1,y.w.heap[kb]? =some (.cells (coc Q.id Q.ru Q.rg pb Q.pr.length Q.pc qb Q.wt) 136 (0,0)):=fun y=>(y.block (old hb1).lt).trans hb1
 have ob1:=old hb1
 have ox1:=old hx
 clear h hI hN hn hR hR2 hT hp HCH hop ad0 ea eb hg
 cases hat:atB c.li ad
 ·show Calls _ _ _ _ (CSTo W w c sy F kb pb qb S (Qez Q) [evC Q 10 0 0 0])
  have HAT:=Vh (fun w'=>at_no13 c.li ad w' HLI.out.1 HLI.out.2 AD.out.1 AD.out.2 hat)
  clear hat
  go_enter Tryz.func116,Tryz.ntmps116
  try dsimp only [List.append]
  go_wp2_with fail
  refine XP w1.heap.size (by kernel_rfl) (by kernel_rfl) ?_
  repeat (go_big_quiet_step (first |(go_at_call 147;exact YZ (GS.out _))))
  refine wpQuiet_nil ?_
  rintro _ ⟨y,rfl⟩
  have CY:=Vh (Below.chg y.below (Nat.le_refl _))
  have HY:=Vh (H1.out.keep0 CY.out)
  have r1:=R1 y
  have r2:=R2 y
  go_wp2_with (first |(go_at_call 46;refine (J2 HY.out.ms).mono ?_;rintro e w3 ⟨rfl,c3⟩;have H3:=Vh (HY.out.keep0 c3);have C3:=Vh c3;clear c3)|(go_at_call 148;refine (HAT.out _).mono ?_;rintro e w' ⟨rfl,rfl⟩)|(go_at_call 110;refine (ED.out _ H3.out 10).mono ?_;rintro e w4 ⟨v,F',rfl,hd⟩))
  go_ret
  exact CSTo.from (((HC1.out.trans CY.out).trans C3.out).mono (by simp)) (fun k hk=>.inl hk) ⟨v,F',rfl,hd⟩
 ·have HAT:=Vh (fun w'=>at_yes13 c.li ad w' HLI.out.1 HLI.out.2 AD.out.1 hat)
  clear hat
  generalize lineOf ad=li at *
  generalize wordOf ad=wo at *
  rcases HOP.out with hk|hk|hk|hk|hk
  ·rw [if_pos rfl,if_pos hk,hna]
   have k8:(i.op==8)=true:=by simp [hk]
   clear hk HOP
   go_enter Tryz.func116,Tryz.ntmps116
   try dsimp only [List.append]
   go_wp2_with fail
   refine XP w1.heap.size (by kernel_rfl) (by kernel_rfl) ?_
   repeat (go_big_quiet_step (first |(go_at_call 147;exact YZ (GS.out _))))
   refine wpQuiet_nil ?_
   rintro _ ⟨y,rfl⟩
   have CY:=Vh (Below.chg y.below (Nat.le_refl _))
   have HY:=Vh (H1.out.keep0 CY.out)
   have r1:=R1 y
   have r2:=R2 y
   go_wp2_with (first |(go_at_call 46;refine (J2 HY.out.ms).mono ?_;rintro e w3 ⟨rfl,c3⟩;have r13:=c3.keep r1 (by simp);have r23:=c3.keep r2 (by simp);have H3:=Vh (HY.out.keep0 c3);have C3:=Vh c3;clear c3 r1 r2)|(go_at_call 148;refine (HAT.out _).mono ?_;rintro e w' ⟨rfl,rfl⟩))
   refine (EL.out _ H3.out li wo).mono ?_
   rintro e w4 ⟨v,F',rfl,hd⟩
   go_wp2_with fail
   go_ret
   exact CSTo.from (((HC1.out.trans CY.out).trans C3.out).mono (by simp)) (fun k hk=>.inl hk) ⟨v,F',rfl,hd⟩
  ·rw [if_pos rfl,if_neg (by omega),if_pos hk]
   have k8:(i.op==8)=false:=by simp [hk]
   have k9:(i.op==9)=true:=by simp [hk]
   have HK:=Vh hk
   clear hk HOP
   go_enter Tryz.func116,Tryz.ntmps116
   try dsimp only [List.append]
   go_wp2_with fail
   refine XP w1.heap.size (by kernel_rfl) (by kernel_rfl) ?_
   repeat (go_big_quiet_step (first |(go_at_call 147;exact YZ (GS.out _))))
   refine wpQuiet_nil ?_
   rintro _ ⟨y,rfl⟩
   have CY:=Vh (Below.chg y.below (Nat.le_refl _))
   have HY:=Vh (H1.out.keep0 CY.out)
   have r1:=R1 y
   have r2:=R2 y
   go_wp2_with (first |(go_at_call 46;refine (J2 HY.out.ms).mono ?_;rintro e w3 ⟨rfl,c3⟩;have r13:=c3.keep r1 (by simp);have r23:=c3.keep r2 (by simp);have H3:=Vh (HY.out.keep0 c3);have C3:=Vh c3;clear c3 r1 r2)|(go_at_call 148;refine (HAT.out _).mono ?_;rintro e w' ⟨rfl,rfl⟩))
   go_still_tail 13,(by kernel_rfl)
   change wpList _ _ _ _ _ w3.drew
   have C4:=Vh ((Chg.refl [] w3).drew)
   have H4:=Vh (H3.out.keep0 C4.out)
   generalize w3.drew=w4 at *
   go_wp2_with fail
   rw [HK.out]
   refine (EP.out _ H4.out 12 ⟨9,li,wo,regN Q.rg na,false⟩ RP.out).mono ?_
   rintro e w5 ⟨v,F',rfl,hd⟩
   go_wp2_with fail
   go_ret
   exact CSTo.from (((((HC1.out.trans CY.out).trans C3.out).trans C4.out).mono (by simp))) (fun k hk=>.inl hk) ⟨v,F',rfl,hd⟩
  ·rw [if_pos rfl,if_neg (by omega),if_neg (by omega),if_pos (by omega)]
   have k8:(i.op==8)=false:=by simp [hk]
   have k9:(i.op==9)=false:=by simp [hk]
   have k10:(i.op==10)=true:=by simp [hk]
   clear hk HOP
   go_enter Tryz.func116,Tryz.ntmps116
   try dsimp only [List.append]
   go_wp2_with fail
   refine XP w1.heap.size (by kernel_rfl) (by kernel_rfl) ?_
   repeat (go_big_quiet_step (first |(go_at_call 147;exact YZ (GS.out _))))
   refine wpQuiet_nil ?_
   rintro _ ⟨y,rfl⟩
   have CY:=Vh (Below.chg y.below (Nat.le_refl _))
   have HY:=Vh (H1.out.keep0 CY.out)
   have r1:=R1 y
   have r2:=R2 y
   go_wp2_with (first |(go_at_call 46;refine (J2 HY.out.ms).mono ?_;rintro e w3 ⟨rfl,c3⟩;have r13:=c3.keep r1 (by simp);have r23:=c3.keep r2 (by simp);have H3:=Vh (HY.out.keep0 c3);have C3:=Vh c3;clear c3 r1 r2)|(go_at_call 148;refine (HAT.out _).mono ?_;rintro e w' ⟨rfl,rfl⟩))
   refine (EC.out _ H3.out li wo).mono ?_
   rintro e w4 ⟨v,F',rfl,hd⟩
   go_wp2_with fail
   go_ret
   exact CSTo.from (((HC1.out.trans CY.out).trans C3.out).mono (by simp)) (fun k hk=>.inl hk) ⟨v,F',rfl,hd⟩
  ·rw [if_pos rfl,if_neg (by omega),if_neg (by omega),if_pos (by omega)]
   have k8:(i.op==8)=false:=by simp [hk]
   have k9:(i.op==9)=false:=by simp [hk]
   have k10:(i.op==10)=false:=by simp [hk]
   have k11:(i.op==11)=true:=by simp [hk]
   clear hk HOP
   go_enter Tryz.func116,Tryz.ntmps116
   try dsimp only [List.append]
   go_wp2_with fail
   refine XP w1.heap.size (by kernel_rfl) (by kernel_rfl) ?_
   repeat (go_big_quiet_step (first |(go_at_call 147;exact YZ (GS.out _))))
   refine wpQuiet_nil ?_
   rintro _ ⟨y,rfl⟩
   have CY:=Vh (Below.chg y.below (Nat.le_refl _))
   have HY:=Vh (H1.out.keep0 CY.out)
   have r1:=R1 y
   have r2:=R2 y
   go_wp2_with (first |(go_at_call 46;refine (J2 HY.out.ms).mono ?_;rintro e w3 ⟨rfl,c3⟩;have r13:=c3.keep r1 (by simp);have r23:=c3.keep r2 (by simp);have H3:=Vh (HY.out.keep0 c3);have C3:=Vh c3;clear c3 r1 r2)|(go_at_call 148;refine (HAT.out _).mono ?_;rintro e w' ⟨rfl,rfl⟩))
   refine (EC.out _ H3.out li wo).mono ?_
   rintro e w4 ⟨v,F',rfl,hd⟩
   go_wp2_with fail
   go_ret
   exact CSTo.from (((HC1.out.trans CY.out).trans C3.out).mono (by simp)) (fun k hk=>.inl hk) ⟨v,F',rfl,hd⟩
  ·rw [if_pos rfl,if_neg (by omega),if_neg (by omega),if_neg (by omega)]
   have k8:(i.op==8)=false:=by rw [beq_eq_false_iff_ne];omega
   have k9:(i.op==9)=false:=by rw [beq_eq_false_iff_ne];omega
   have k10:(i.op==10)=false:=by rw [beq_eq_false_iff_ne];omega
   have k11:(i.op==11)=false:=by rw [beq_eq_false_iff_ne];omega
   clear hk HOP
   go_enter Tryz.func116,Tryz.ntmps116
   try dsimp only [List.append]
   go_wp2_with fail
   refine XP w1.heap.size (by kernel_rfl) (by kernel_rfl) ?_
   repeat (go_big_quiet_step (first |(go_at_call 147;exact YZ (GS.out _))))
   refine wpQuiet_nil ?_
   rintro _ ⟨y,rfl⟩
   have CY:=Vh (Below.chg y.below (Nat.le_refl _))
   have HY:=Vh (H1.out.keep0 CY.out)
   have r1:=R1 y
   have r2:=R2 y
   go_wp2_with (first |(go_at_call 46;refine (J2 HY.out.ms).mono ?_;rintro e w3 ⟨rfl,c3⟩;have r13:=c3.keep r1 (by simp);have r23:=c3.keep r2 (by simp);have H3:=Vh (HY.out.keep0 c3);have C3:=Vh c3;clear c3 r1 r2)|(go_at_call 148;refine (HAT.out _).mono ?_;rintro e w' ⟨rfl,rfl⟩))
   refine (EP.out _ H3.out 14 ⟨i.op,li,0,0,false⟩ (Int.le_refl _)).mono ?_
   rintro e w5 ⟨v,F',rfl,hd⟩
   go_wp2_with fail
   go_ret
   exact CSTo.from ((((HC1.out.trans CY.out).trans C3.out).mono (by simp))) (fun k hk=>.inl hk) ⟨v,F',rfl,hd⟩
end
end
section
theorem Cor.read {w w':World} {kb pb qb:Nat} {Q:Co} {u:Int} {r:Bool} (h:Cor w kb pb qb Q) (hx:Q.pr[Q.pc]? =some (u,r)) (hc:Chg [pb] w w') (hs:Sts w' pb ((Q.pr.set Q.pc (u,true)).map stp)):Cor w' kb pb qb (QI Q u):=by
 have hn:=(Vg hx).1
 have hl:(Q.pr.set Q.pc (u,true)).length=Q.pr.length:=List.length_set
 refine ⟨?_,hs,h.buf.keep hc (by simpa using h.pq.symm),h.kp,h.kq,h.pq,⟨h.ok.h8,h.ok.pc,by show (Q.pr.set _ _).length≤_;rw [hl];exact h.ok.np,?_,h.ok.wt,h.ok.id,h.ok.pos.read u⟩⟩
 ·show w'.heap[kb]? =some (.cells (coc Q.id Q.ru Q.rg pb (Q.pr.set Q.pc (u,true)).length Q.pc qb Q.wt) _ _)
  rw [hl]
  exact hc.keep h.own (by simpa using h.kp)
 ·intro x hm
  rcases List.mem_or_eq_of_mem_set hm with h1|rfl
  ·exact h.ok.pr x h1
  ·exact h.ok.pr (u,r) (List.mem_of_getElem? hx)
section
variable {w:World} {kb pb qb:Nat} {Q:Co} (hC:Cor w kb pb qb Q)
include hC
theorem dhere_none (hx:Q.pr.length≤Q.pc):Calls Tryz.prog 109 #[.pointer (some ⟨kb,0,none⟩)] w fun e w'=>e=.returned (.tuple #[.agg (insc insZ),.bool false])∧Chg [] w w':=by
 have h8:=hC.ok.h8
 have hb:=hC.own
 have ob:=old hb
 have hz:(w.alloc (.cells (insc insZ) 68)).heap[w.heap.size]? =some (.cells (insc insZ) 68 (0,0)):=by simp
 have HC1:=Vh ((Chg.refl [] w).alloc (.cells (insc insZ) 68))
 have hb1:=HC1.out.keep hb (by simp)
 have hlt:(Q.pr.length:Int)≤(Q.pc:Int):=by omega
 clear hC hx
 generalize Q.pr.length=np at *
 generalize Q.pc=pc at *
 go_enter Tryz.func109,Tryz.ntmps109
 go_wp2_with fail
 go_quiet (fail)
 go_wp2_with fail
 refine bodyPost_ret (v:=.tuple #[.agg (insc insZ),.bool false]) (J1 (by rfl) _ _ w.heap.size insZ (0,0) (by rfl) (by rw [Qc _ _ _ _ _ (by simp [ZO,Fit,QG]),if_pos rfl];simp) _ (by rfl)) (by rfl) ⟨rfl,(HC1.out.drewN _).putRow _ _ _ (.inr (Nat.le_refl _))⟩
theorem Qbf {u:Int} {r:Bool} (hx:Q.pr[Q.pc]? =some (u,r)):Calls Tryz.prog 109 #[.pointer (some ⟨kb,0,none⟩)] w fun e w'=>e=.returned (.tuple #[.agg (insc (decI u)),.bool (decB u)])∧Cor w' kb pb qb (QI Q u)∧Chg [pb] w w':=by
 have hn:=(Vg hx).1
 have h8:=hC.ok.h8
 have hb:=hC.own
 have ob:=old hb
 have hu:=hC.ok.pr _ (List.mem_of_getElem? hx)
 have hz:(w.alloc (.cells (insc insZ) 68)).heap[w.heap.size]? =some (.cells (insc insZ) 68 (0,0)):=by simp
 have HC1:=Vh ((Chg.refl [] w).alloc (.cells (insc insZ) 68))
 have HC:=Vh (hC.keep0 HC1.out)
 have hb1:=HC.out.own
 have HX:=Vh hx
 have HI:=Vh (fun (w':World) (h:Cor w' kb pb qb Q)=>oins h.steps hx hu.1 hu.2)
 have HR:=Vh (fun (w' w'':World) (h:Cor w' kb pb qb Q) (hc:Chg [pb] w' w'') hs=>h.read hx hc hs)
 have hlt:(Q.pc:Int)<(Q.pr.length:Int):=by omega
 have hlt2:decide ((Q.pr.length:Int)≤(Q.pc:Int))=false:=by simp;omega
 have h0:(0:Int)≤(Q.pc:Int):=by omega
 have HPP:=Vh (show w.heap.size≠kb∧w.heap.size≠pb∧w.heap.size≠qb from by have:=hC.oldk.lt;have:=hC.oldp.lt;have:=hC.oldq.lt;omega)
 clear hC hx hn hu
 generalize hnp:Q.pr.length=np at *
 generalize hpc:Q.pc=pc at *
 generalize hw1:w.alloc (.cells (insc insZ) 68)=w1 at *
 generalize hzz:w.heap.size=p at *
 go_enter Tryz.func109,Tryz.ntmps109
 go_wp2_with fail
 go_quiet (fail)
 go_wp2_with fail
 have n1:¬p=kb:=HPP.out.1
 have n2:¬kb=p:=fun e=>HPP.out.1 e.symm
 have HQ:=Vh ((Chg.refl [] w1).drewN nq)
 have HC2:=Vh (HC.out.keep0 HQ.out)
 have hz2:=HQ.out.keep hz (by simp)
 have hb2:=HQ.out.keep hb1 (by simp)
 have HG2:=Vh (HC1.out.trans HQ.out)
 clear hz hb1 HQ
 generalize w1.drewN nq=w2 at *
 have hb2d:=((Chg.refl [] w2).drew).keep hb2 (by simp)
 have hz2d:=((Chg.refl [] w2).drew).keep hz2 (by simp)
 go_region_held3 (fun w'=>w'.heap[kb]? =some (.cells (coc Q.id Q.ru Q.rg pb np pc qb Q.wt) 136 (0,0)))
  (first |with_reducible exact hb2d|with_reducible exact hb4|(rw [Qc _ _ _ _ _ (by simp [hz4,ZO,Fit,QG]),if_neg n2];with_reducible exact hb4))
  (first |(go_at_call 143;refine (HI.out _ (HC2.out.keep0 ((Chg.refl [] w2).drew))).mono ?_;rintro e w4 ⟨rfl,c4,s4⟩;have hz4:=c4.keep hz2d (by simpa using HPP.out.2.1);have hb4:=c4.keep hb2d (by simpa using HC2.out.kp)))
 all_goals
  rename World=>w4
  go_wp2_with fail
  have cp:Chg [p] w4 (putRow w4 p 0 (insc (decI u))):=(Chg.refl [p] w4).putRow p 0 _ (.inl (by simp))
  refine bodyPost_ret (v:=.tuple #[.agg (insc (decI u)),.bool (decB u)]) (J1 (by rfl) _ _ p (decI u) (0,0) (by rfl) (by rw [Qc _ _ _ _ _ (by rw [hz4];simp [ZO,Fit,QG]),if_pos rfl,hz4];exact Qg _ _ _ _ (by rw [QG,QG])) _ (by rfl)) (by rfl) ⟨rfl,(HR.out _ _ (HC2.out.keep0 ((Chg.refl [] w2).drew)) c4 s4).keep cp (by simpa using n2) (by simpa using fun e=>HPP.out.2.1 e.symm) (by simpa using fun e=>HPP.out.2.2 e.symm),(((HG2.out.drew.mono (by simp)).trans c4).putRow p 0 _ (.inr (by omega)))⟩
end
end
end Go.Proofs.YtcgjofbkcgedfaaGreatDoor
namespace Go.Proofs.YtcgjofbkcgedfaaGreatDoor
open Go.RowKit
set_option linter.unusedVariables false
set_option maxHeartbeats 1000000
section
section
variable {P:Program} {md:Region.Mode} {ops:Array Oper} {C:World→Prop}
def waysQ (P:Program) (md:Region.Mode) (ops:Array Oper) (C:World→Prop) (n:Nat) (L:Array Bool→Act→Prop):Nat→Array Bool→Act→Prop
 |0,ls,a=>L ls a
 |f+1,ls,a=>Region.ready md ops ls≠[]∧∀i∈Region.ready md ops ls,i<n∧qOp P ops C i (waysQ P md ops C n L f (ls.setIfInBounds i true)) a
theorem waysQ.first {n i:Nat} {oi:Oper} {v:Value} {L:Array Bool→Act→Prop} (hi:ops[i]? =some oi) (hsel:∀(j:Nat) (o:Oper) cs b,ops[j]? =some o→o.op≠.select cs b)
 (hs:Region.sinkB md ops n=true) (hc:Region.chainB md ops n=true) (hn:n<ops.size) (hin:i<n) (hend:∀ls a,L ls a→∀j∈Region.ready md ops ls,n≤j):
 ∀(f:Nat) (ls:Array Bool) (a:Act),HeadInv md ops n ls→(∀j oj,ops[j]? =some oj→j≠i→ls.getD j true=false→(∀e∈oj.after,Region.binds md e=true→e.on≠i)→oi.apart ops oj=true)→
  i∈Region.ready md ops ls→YieldsIn P ops C oi v a→waysQ P md ops C n L f (ls.setIfInBounds i true) (a.put oi.dst v)→waysQ P md ops C n L (f+1) ls a:=by
 intro f
 induction f with
 |zero=>
  intro ls a inv _ hr hy H
  refine ⟨fun e=>(by rw [e] at hr;cases hr),fun j hj=>?_⟩
  have hjn:j<n:=Nat.lt_of_not_le fun e=>tail_waits hs hc hn inv _ i rfl hin (mem_ready.1 hr).1 j e hj
  refine ⟨hjn,?_⟩
  by_cases hji:j=i
  ·rw [hji];exact hy.qOp hi H
  ·exact absurd hjn (Nat.not_lt_of_le (hend _ _ H j (ready_mono hj hji)))
 |succ f ih=>
  intro ls a inv hfree hr hy H
  refine ⟨fun e=>(by rw [e] at hr;cases hr),fun j hj=>?_⟩
  have hjn:j<n:=Nat.lt_of_not_le fun e=>tail_waits hs hc hn inv _ i rfl hin (mem_ready.1 hr).1 j e hj
  refine ⟨hjn,?_⟩
  by_cases hji:j=i
  ·rw [hji];exact hy.qOp hi H
  ·obtain ⟨hju,oj,hoj,hall⟩:=mem_ready.1 hj
   have hno:∀e∈oj.after,Region.binds md e=true→e.on≠i:=by
    intro e he hb heq
    have h1:=hall e he hb
    rw [heq,getD_both (mem_ready.1 hr).1] at h1
    cases h1
   refine qOp_mono (fun a' h3=>ih _ a' (inv.set hj hjn) ?_ (ready_mono hr (Ne.symm hji)) h3.1 ?_) (qOp_put hoj (hfree j oj hoj hji hju hno) (fun cs b=>hsel i oi cs b hi) (fun cs b=>hsel j oj cs b hoj) hy (H.2 j (ready_mono hj hji)).2)
   ·intro k ok hk hki hu hno2
    refine hfree k ok hk hki ?_ hno2
    by_cases hjk:j=k
    ·rw [←hjk];exact hju
    ·rwa [getD_set_ne true hjk] at hu
   ·rw [Array.setIfInBounds_comm _ _ hji]
    exact h3.2
end
end
end Go.Proofs.YtcgjofbkcgedfaaGreatDoor
