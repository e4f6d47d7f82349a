/- Texts of the walk, one behind the other: Cox Coy Coz Mch. No condition. -/
import Derived.Test.YtcgjofbkcgedfaaGreatDoorMPaa
import Derived.Test.YtcgjofbkcgedfaaGreatDoorMPam
import Derived.Test.YtcgjofbkcgedfaaGreatDoorMPao
namespace Go.Proofs.YtcgjofbkcgedfaaGreatDoor
open Go.RowKit
set_option linter.unusedVariables false
set_option maxHeartbeats 1000000
set_option maxRecDepth 100000
attribute [local go_sem ↓] Qv QF Qy QO QE Qs Qk Qh heap_alloc Ql heap_setCell Qc Yq Xu Xg ZP YD XA YC Xz Yi Yh Yd Ye Yf Xh XW XV XU Xj YK YL YJ YG YH YX YT XE YV YW YU YS
attribute [local go_sem] Qb Qa Qd Qi Qe Qg Qf QB Qw QN QL QM Q5 QK QA Qr QD QW QJ Qq QC Qp Qj Qo Qn Yc Xf YB Q8 Xv Xw JT Yg ZZ ZY ZX ZW Yn Ym Yj Yk Yl QG ZQ Xi ZR XT Zc XB YI XC Qad Xa Z9 Z8 Z7 Z6 YP YQ YO YM YN Z3 QY QZ QX QP Qt Zk
attribute [local simp ↓] Qk Qh heap_alloc Ql heap_setCell Qc
attribute [local simp] Qb Qa Qd Qi Qe Qg Qf Qr Qj Qo Qn Q8 QG Zc QY QZ QX QP Qt QD
attribute [local go_sem ↓] Qh
section
theorem CS.setReg {W w:World} {c:Cg} {sy:Nat} {F:List Nat} {S:Mst} {kb pb qb:Nat} {Q:Co} (h:CS W w c sy F S kb pb qb Q) {a:Nat} (ha:a<8) {v:Int} (hv:0≤v):CS W (w.setCell ⟨kb,2+a,none⟩ (.int .u64 v)) c sy F S kb pb qb (setR Q a v):=
 h.core ((Chg.refl [kb,pb,qb] w).setCell kb _ _ (.inl (by simp))) (h.co.setReg ha hv)
section
variable {W w:World} {c:Cg} {sy n:Nat} {F:List Nat} {S:Mst} {cur:Nat→List Int} {kb pb qb:Nat} {Q:Co} (h:CS W w c sy F S kb pb qb Q) (hI:Inv c n S cur) (hN:NN cur) (hn:n+1≤1000000000) (hR:Roomy c S) (hR2:∀li wo,Roomy c (loadM c S Q.id li wo).1) (hT:Tab W) {u:Int} {r:Bool} (hru:Q.ru=true) (hx:Q.pr[Q.pc]? =some (u,r))
include h hI hN hn hR hR2 hT hru hx
theorem xexec_bad (hd:decB u=false):Calls Tryz.prog 87 #[.pointer (some ⟨kb,0,none⟩),.pointer (some ⟨sy,0,none⟩)] w (CSTo W w c sy F kb pb qb S (Qez (QI Q u)) [evC Q 10 0 0 0]):=by
 have _:=hI
 have _:=hN
 have _:=hn
 have _:=hR
 have _:=hR2
 have _:=hT
 have DH:=Qbf h.co hx
 rw [hd] at DH
 have HD:=Vh DH
 have RU:=Qao h.co.own
 rw [hru] at RU
 have HRU:=Vh RU
 have H1:=Vh (fun (w1:World) (hc:Chg [pb] w w1) (hC:Cor w1 kb pb qb (QI Q u))=>h.core (hc.mono (by simp)) hC)
 have ED:=Vh (fun (w':World) (h':CS W w' c sy F S kb pb qb (QI Q u)) (kd:Int)=>(dend h'.co h'.old kd).mono fun e w' hd=>h'.ofCo hd)
 clear h hI hN hn hR hR2 hT hru hx hd DH RU
 go_enter Tryz.func87,Tryz.ntmps87
 try dsimp only [List.append]
 go_wp2_with (first |(go_at_call 72;refine HRU.out.mono ?_;rintro e w' ⟨rfl,rfl⟩)|(go_at_call 109;refine HD.out.mono ?_;rintro e w1 ⟨rfl,hC1,hc1⟩;have H1:=Vh (H1.out w1 hc1 hC1);have C1:=Vh hc1;clear hC1 hc1))
 have C2:Chg [] w1 (w1.alloc (.cells (insc (decI u)) 68)):=(Chg.refl [] w1).alloc _
 refine (ED.out _ (H1.out.keep0 C2) 10).mono ?_
 rintro e w4 ⟨v,F',rfl,hd⟩
 go_wp2_with fail
 go_ret
 exact CSTo.from (ZS ((C1.out.mono (by simp)).trans (C2.mono (by simp)))) (fun k hk=>.inl hk) ⟨v,F',rfl,hd⟩
theorem xexec_0 (hd:decB u=true) (hk:(Qz u).op=0):Calls Tryz.prog 87 #[.pointer (some ⟨kb,0,none⟩),.pointer (some ⟨sy,0,none⟩)] w (CSTo W w c sy F kb pb qb S (Yo (QI Q u)) []):=by
 have _:=hI
 have _:=hN
 have _:=hn
 have _:=hR
 have _:=hR2
 have _:=hT
 have hg:YF (Qz u)=true:=by unfold decB at hd;rw [Bool.and_eq_true] at hd;exact hd.1
 obtain ⟨_,ga,gb,gc,gm⟩:=Zw hg
 have hpl:=(Vg hx).1
 have hpn:=h.co.ok.np
 have hp:(QI Q u).pc<2147483648:=by show Q.pc<_;omega
 have DH:=Qbf h.co hx
 rw [hd,show decI u=Qz u by unfold decI;rw [hd];rfl] at DH
 have HD:=Vh DH
 have RU:=Qao h.co.own
 rw [hru] at RU
 have HRU:=Vh RU
 have HP:=Vh hp
 have H1:=Vh (fun (w1:World) (hc:Chg [pb] w w1) (hC:Cor w1 kb pb qb (QI Q u))=>h.core (hc.mono (by simp)) hC)
 have EN:=Vh (fun (w':World) (Q':Co) (h':CS W w' c sy F S kb pb qb Q') (hp:Q'.pc<2147483648)=>(Qaf h'.co h'.old hp).mono fun e w' hd=>h'.ofCo hd)
 have h8:(QI Q u).rg.length=8:=h.co.ok.h8
 clear h hI hN hn hR hR2 hT hru hx hd DH RU ga gb gc gm hg hpl hpn hp
 generalize Qz u=i at *
 generalize QI Q u=Q1 at *
 go_enter Tryz.func87,Tryz.ntmps87
 try dsimp only [List.append]
 go_wp2_with (first |(go_at_call 72;refine HRU.out.mono ?_;rintro e w' ⟨rfl,rfl⟩)|(go_at_call 109;refine HD.out.mono ?_;rintro e w1 ⟨rfl,hC1,hc1⟩;have hb1:=hC1.own;have H1:=Vh (H1.out w1 hc1 hC1);have C1:=Vh hc1;clear hC1 hc1))
 have hx2:(w1.alloc (.cells (insc i) 68)).heap[w1.heap.size]? =some (.cells (insc i) 68 (0,0)):=by simp
 have C2:=Vh (show Chg [] w1 (w1.alloc (.cells (insc i) 68)) from (Chg.refl [] w1).alloc _)
 have hb2:=C2.out.keep hb1 (by simp)
 have H2:=Vh (H1.out.keep0 C2.out)
 have HPK:=Vh (show w1.heap.size≠kb∧w1.heap.size∉F from ⟨by have:=H1.out.co.oldk.lt;omega,fun hm=>by have:=H1.out.old _ hm;omega⟩)
 have G2:=Vh (show Chg (kb::pb::qb::F) w (w1.alloc (.cells (insc i) 68)) from ZS ((C1.out.mono (by simp)).trans (C2.out.mono (by simp))))
 clear hb1 H1 C1 C2 HD HRU
 generalize w1.alloc (.cells (insc i) 68)=w2 at *
 generalize w1.heap.size=p at *
 have o2:=old hb2
 have ox2:=old hx2
 have n1:¬p=kb:=HPK.out.1
 have n2:¬kb=p:=fun e=>HPK.out.1 e.symm
 refine (EN.out _ _ H2.out HP.out).mono ?_
 rintro e w4 ⟨v,F',rfl,hd⟩
 go_wp2_with fail
 go_ret
 exact CSTo.from G2.out (fun k hk=>.inl hk) ⟨v,F',rfl,hd⟩
theorem xexec_1 (hd:decB u=true) (hk:(Qz u).op=1):Calls Tryz.prog 87 #[.pointer (some ⟨kb,0,none⟩),.pointer (some ⟨sy,0,none⟩)] w (CSTo W w c sy F kb pb qb S (Yo (setR (QI Q u) (Qz u).a (IntKind.u64.wrap (Qz u).im))) []):=by
 have _:=hI
 have _:=hN
 have _:=hn
 have _:=hR
 have _:=hR2
 have _:=hT
 have hg:YF (Qz u)=true:=by unfold decB at hd;rw [Bool.and_eq_true] at hd;exact hd.1
 obtain ⟨_,ga,gb,gc,gm⟩:=Zw hg
 have hpl:=(Vg hx).1
 have hpn:=h.co.ok.np
 have hp:(QI Q u).pc<2147483648:=by show Q.pc<_;omega
 have DH:=Qbf h.co hx
 rw [hd,show decI u=Qz u by unfold decI;rw [hd];rfl] at DH
 have HD:=Vh DH
 have RU:=Qao h.co.own
 rw [hru] at RU
 have HRU:=Vh RU
 have HP:=Vh hp
 have H1:=Vh (fun (w1:World) (hc:Chg [pb] w w1) (hC:Cor w1 kb pb qb (QI Q u))=>h.core (hc.mono (by simp)) hC)
 have EN:=Vh (fun (w':World) (Q':Co) (h':CS W w' c sy F S kb pb qb Q') (hp:Q'.pc<2147483648)=>(Qaf h'.co h'.old hp).mono fun e w' hd=>h'.ofCo hd)
 obtain ⟨na,hna⟩:∃n:Nat,(Qz u).a=(n:Int):=⟨(Qz u).a.toNat,by omega⟩
 have la:na<8:=by omega
 have la':(na:Int)<8:=by omega
 rw [hna]
 have HV:=Vh (Qcw (Qz u).im)
 have h8:(QI Q u).rg.length=8:=h.co.ok.h8
 clear h hI hN hn hR hR2 hT hru hx hd DH RU ga gb gc gm hg hpl hpn hp
 generalize Qz u=i at *
 generalize QI Q u=Q1 at *
 go_enter Tryz.func87,Tryz.ntmps87
 try dsimp only [List.append]
 go_wp2_with (first |(go_at_call 72;refine HRU.out.mono ?_;rintro e w' ⟨rfl,rfl⟩)|(go_at_call 109;refine HD.out.mono ?_;rintro e w1 ⟨rfl,hC1,hc1⟩;have hb1:=hC1.own;have H1:=Vh (H1.out w1 hc1 hC1);have C1:=Vh hc1;clear hC1 hc1))
 have hx2:(w1.alloc (.cells (insc i) 68)).heap[w1.heap.size]? =some (.cells (insc i) 68 (0,0)):=by simp
 have C2:=Vh (show Chg [] w1 (w1.alloc (.cells (insc i) 68)) from (Chg.refl [] w1).alloc _)
 have hb2:=C2.out.keep hb1 (by simp)
 have H2:=Vh (H1.out.keep0 C2.out)
 have HPK:=Vh (show w1.heap.size≠kb∧w1.heap.size∉F from ⟨by have:=H1.out.co.oldk.lt;omega,fun hm=>by have:=H1.out.old _ hm;omega⟩)
 have G2:=Vh (show Chg (kb::pb::qb::F) w (w1.alloc (.cells (insc i) 68)) from ZS ((C1.out.mono (by simp)).trans (C2.out.mono (by simp))))
 clear hb1 H1 C1 C2 HD HRU
 generalize w1.alloc (.cells (insc i) 68)=w2 at *
 generalize w1.heap.size=p at *
 have o2:=old hb2
 have ox2:=old hx2
 have n1:¬p=kb:=HPK.out.1
 have n2:¬kb=p:=fun e=>HPK.out.1 e.symm
 go_region
 all_goals
  go_wp2_with fail
  have cS:Chg [kb,pb,qb] w2 (w2.setCell ⟨kb,2+na,none⟩ (.int .u64 (IntKind.u64.wrap i.im))).drew:=((Chg.refl [kb,pb,qb] w2).setCell kb _ _ (.inl (by simp))).drew
  refine (EN.out _ _ ((H2.out.setReg la HV.out).keep0 (Chg.refl [] _).drew) HP.out).mono ?_
  rintro e w4 ⟨v,F',rfl,hd⟩
  go_wp2_with fail
  go_ret
  exact CSTo.from (G2.out.trans (ZS cS)) (fun k hk=>.inl hk) ⟨v,F',rfl,hd⟩
theorem xexec_8 (hd:decB u=true) (hk:(Qz u).op=8):Calls Tryz.prog 87 #[.pointer (some ⟨kb,0,none⟩),.pointer (some ⟨sy,0,none⟩)] w (CSTo W w c sy F kb pb qb (Xk c S (QI Q u) (Qz u)).S (Xk c S (QI Q u) (Qz u)).Q (Xk c S (QI Q u) (Qz u)).ev):=by
 have _:=hI
 have _:=hN
 have _:=hn
 have _:=hR
 have _:=hR2
 have _:=hT
 have hg:YF (Qz u)=true:=by unfold decB at hd;rw [Bool.and_eq_true] at hd;exact hd.1
 obtain ⟨_,ga,gb,gc,gm⟩:=Zw hg
 have hpl:=(Vg hx).1
 have hpn:=h.co.ok.np
 have hp:(QI Q u).pc<2147483648:=by show Q.pc<_;omega
 have DH:=Qbf h.co hx
 rw [hd,show decI u=Qz u by unfold decI;rw [hd];rfl] at DH
 have HD:=Vh DH
 have RU:=Qao h.co.own
 rw [hru] at RU
 have HRU:=Vh RU
 have HP:=Vh hp
 have H1:=Vh (fun (w1:World) (hc:Chg [pb] w w1) (hC:Cor w1 kb pb qb (QI Q u))=>h.core (hc.mono (by simp)) hC)
 have EA:=Vh (fun (w':World) (h':CS W w' c sy F S kb pb qb (QI Q u))=>Qeu h' hI hN hn hR (fun li wo=>hR2 li wo) hT (Qz u) hg (by omega) hp)
 have h8:(QI Q u).rg.length=8:=h.co.ok.h8
 clear h hI hN hn hR hR2 hT hru hx hd DH RU ga gb gc gm hg hpl hpn hp
 generalize Qz u=i at *
 generalize QI Q u=Q1 at *
 go_enter Tryz.func87,Tryz.ntmps87
 try dsimp only [List.append]
 go_wp2_with (first |(go_at_call 72;refine HRU.out.mono ?_;rintro e w' ⟨rfl,rfl⟩)|(go_at_call 109;refine HD.out.mono ?_;rintro e w1 ⟨rfl,hC1,hc1⟩;have hb1:=hC1.own;have H1:=Vh (H1.out w1 hc1 hC1);have C1:=Vh hc1;clear hC1 hc1))
 have hx2:(w1.alloc (.cells (insc i) 68)).heap[w1.heap.size]? =some (.cells (insc i) 68 (0,0)):=by simp
 have C2:=Vh (show Chg [] w1 (w1.alloc (.cells (insc i) 68)) from (Chg.refl [] w1).alloc _)
 have hb2:=C2.out.keep hb1 (by simp)
 have H2:=Vh (H1.out.keep0 C2.out)
 have HPK:=Vh (show w1.heap.size≠kb∧w1.heap.size∉F from ⟨by have:=H1.out.co.oldk.lt;omega,fun hm=>by have:=H1.out.old _ hm;omega⟩)
 have G2:=Vh (show Chg (kb::pb::qb::F) w (w1.alloc (.cells (insc i) 68)) from ZS ((C1.out.mono (by simp)).trans (C2.out.mono (by simp))))
 clear hb1 H1 C1 C2 HD HRU
 generalize w1.alloc (.cells (insc i) 68)=w2 at *
 generalize w1.heap.size=p at *
 have o2:=old hb2
 have ox2:=old hx2
 have n1:¬p=kb:=HPK.out.1
 have n2:¬kb=p:=fun e=>HPK.out.1 e.symm
 refine (EA.out _ H2.out).mono ?_
 rintro e w4 ⟨v,F',rfl,hd⟩
 go_wp2_with fail
 go_ret
 exact CSTo.from G2.out (fun k hk=>.inl hk) ⟨v,F',rfl,hd⟩
theorem xexec_9 (hd:decB u=true) (hk:(Qz u).op=9):Calls Tryz.prog 87 #[.pointer (some ⟨kb,0,none⟩),.pointer (some ⟨sy,0,none⟩)] w (CSTo W w c sy F kb pb qb (Xk c S (QI Q u) (Qz u)).S (Xk c S (QI Q u) (Qz u)).Q (Xk c S (QI Q u) (Qz u)).ev):=by
 have _:=hI
 have _:=hN
 have _:=hn
 have _:=hR
 have _:=hR2
 have _:=hT
 have hg:YF (Qz u)=true:=by unfold decB at hd;rw [Bool.and_eq_true] at hd;exact hd.1
 obtain ⟨_,ga,gb,gc,gm⟩:=Zw hg
 have hpl:=(Vg hx).1
 have hpn:=h.co.ok.np
 have hp:(QI Q u).pc<2147483648:=by show Q.pc<_;omega
 have DH:=Qbf h.co hx
 rw [hd,show decI u=Qz u by unfold decI;rw [hd];rfl] at DH
 have HD:=Vh DH
 have RU:=Qao h.co.own
 rw [hru] at RU
 have HRU:=Vh RU
 have HP:=Vh hp
 have H1:=Vh (fun (w1:World) (hc:Chg [pb] w w1) (hC:Cor w1 kb pb qb (QI Q u))=>h.core (hc.mono (by simp)) hC)
 have EA:=Vh (fun (w':World) (h':CS W w' c sy F S kb pb qb (QI Q u))=>Qeu h' hI hN hn hR (fun li wo=>hR2 li wo) hT (Qz u) hg (by omega) hp)
 have h8:(QI Q u).rg.length=8:=h.co.ok.h8
 clear h hI hN hn hR hR2 hT hru hx hd DH RU ga gb gc gm hg hpl hpn hp
 generalize Qz u=i at *
 generalize QI Q u=Q1 at *
 go_enter Tryz.func87,Tryz.ntmps87
 try dsimp only [List.append]
 go_wp2_with (first |(go_at_call 72;refine HRU.out.mono ?_;rintro e w' ⟨rfl,rfl⟩)|(go_at_call 109;refine HD.out.mono ?_;rintro e w1 ⟨rfl,hC1,hc1⟩;have hb1:=hC1.own;have H1:=Vh (H1.out w1 hc1 hC1);have C1:=Vh hc1;clear hC1 hc1))
 have hx2:(w1.alloc (.cells (insc i) 68)).heap[w1.heap.size]? =some (.cells (insc i) 68 (0,0)):=by simp
 have C2:=Vh (show Chg [] w1 (w1.alloc (.cells (insc i) 68)) from (Chg.refl [] w1).alloc _)
 have hb2:=C2.out.keep hb1 (by simp)
 have H2:=Vh (H1.out.keep0 C2.out)
 have HPK:=Vh (show w1.heap.size≠kb∧w1.heap.size∉F from ⟨by have:=H1.out.co.oldk.lt;omega,fun hm=>by have:=H1.out.old _ hm;omega⟩)
 have G2:=Vh (show Chg (kb::pb::qb::F) w (w1.alloc (.cells (insc i) 68)) from ZS ((C1.out.mono (by simp)).trans (C2.out.mono (by simp))))
 clear hb1 H1 C1 C2 HD HRU
 generalize w1.alloc (.cells (insc i) 68)=w2 at *
 generalize w1.heap.size=p at *
 have o2:=old hb2
 have ox2:=old hx2
 have n1:¬p=kb:=HPK.out.1
 have n2:¬kb=p:=fun e=>HPK.out.1 e.symm
 refine (EA.out _ H2.out).mono ?_
 rintro e w4 ⟨v,F',rfl,hd⟩
 go_wp2_with fail
 go_ret
 exact CSTo.from G2.out (fun k hk=>.inl hk) ⟨v,F',rfl,hd⟩
theorem xexec_10 (hd:decB u=true) (hk:(Qz u).op=10):Calls Tryz.prog 87 #[.pointer (some ⟨kb,0,none⟩),.pointer (some ⟨sy,0,none⟩)] w (CSTo W w c sy F kb pb qb (Xk c S (QI Q u) (Qz u)).S (Xk c S (QI Q u) (Qz u)).Q (Xk c S (QI Q u) (Qz u)).ev):=by
 have _:=hI
 have _:=hN
 have _:=hn
 have _:=hR
 have _:=hR2
 have _:=hT
 have hg:YF (Qz u)=true:=by unfold decB at hd;rw [Bool.and_eq_true] at hd;exact hd.1
 obtain ⟨_,ga,gb,gc,gm⟩:=Zw hg
 have hpl:=(Vg hx).1
 have hpn:=h.co.ok.np
 have hp:(QI Q u).pc<2147483648:=by show Q.pc<_;omega
 have DH:=Qbf h.co hx
 rw [hd,show decI u=Qz u by unfold decI;rw [hd];rfl] at DH
 have HD:=Vh DH
 have RU:=Qao h.co.own
 rw [hru] at RU
 have HRU:=Vh RU
 have HP:=Vh hp
 have H1:=Vh (fun (w1:World) (hc:Chg [pb] w w1) (hC:Cor w1 kb pb qb (QI Q u))=>h.core (hc.mono (by simp)) hC)
 have EA:=Vh (fun (w':World) (h':CS W w' c sy F S kb pb qb (QI Q u))=>Qeu h' hI hN hn hR (fun li wo=>hR2 li wo) hT (Qz u) hg (by omega) hp)
 have h8:(QI Q u).rg.length=8:=h.co.ok.h8
 clear h hI hN hn hR hR2 hT hru hx hd DH RU ga gb gc gm hg hpl hpn hp
 generalize Qz u=i at *
 generalize QI Q u=Q1 at *
 go_enter Tryz.func87,Tryz.ntmps87
 try dsimp only [List.append]
 go_wp2_with (first |(go_at_call 72;refine HRU.out.mono ?_;rintro e w' ⟨rfl,rfl⟩)|(go_at_call 109;refine HD.out.mono ?_;rintro e w1 ⟨rfl,hC1,hc1⟩;have hb1:=hC1.own;have H1:=Vh (H1.out w1 hc1 hC1);have C1:=Vh hc1;clear hC1 hc1))
 have hx2:(w1.alloc (.cells (insc i) 68)).heap[w1.heap.size]? =some (.cells (insc i) 68 (0,0)):=by simp
 have C2:=Vh (show Chg [] w1 (w1.alloc (.cells (insc i) 68)) from (Chg.refl [] w1).alloc _)
 have hb2:=C2.out.keep hb1 (by simp)
 have H2:=Vh (H1.out.keep0 C2.out)
 have HPK:=Vh (show w1.heap.size≠kb∧w1.heap.size∉F from ⟨by have:=H1.out.co.oldk.lt;omega,fun hm=>by have:=H1.out.old _ hm;omega⟩)
 have G2:=Vh (show Chg (kb::pb::qb::F) w (w1.alloc (.cells (insc i) 68)) from ZS ((C1.out.mono (by simp)).trans (C2.out.mono (by simp))))
 clear hb1 H1 C1 C2 HD HRU
 generalize w1.alloc (.cells (insc i) 68)=w2 at *
 generalize w1.heap.size=p at *
 have o2:=old hb2
 have ox2:=old hx2
 have n1:¬p=kb:=HPK.out.1
 have n2:¬kb=p:=fun e=>HPK.out.1 e.symm
 refine (EA.out _ H2.out).mono ?_
 rintro e w4 ⟨v,F',rfl,hd⟩
 go_wp2_with fail
 go_ret
 exact CSTo.from G2.out (fun k hk=>.inl hk) ⟨v,F',rfl,hd⟩
theorem xexec_11 (hd:decB u=true) (hk:(Qz u).op=11):Calls Tryz.prog 87 #[.pointer (some ⟨kb,0,none⟩),.pointer (some ⟨sy,0,none⟩)] w (CSTo W w c sy F kb pb qb (Xk c S (QI Q u) (Qz u)).S (Xk c S (QI Q u) (Qz u)).Q (Xk c S (QI Q u) (Qz u)).ev):=by
 have _:=hI
 have _:=hN
 have _:=hn
 have _:=hR
 have _:=hR2
 have _:=hT
 have hg:YF (Qz u)=true:=by unfold decB at hd;rw [Bool.and_eq_true] at hd;exact hd.1
 obtain ⟨_,ga,gb,gc,gm⟩:=Zw hg
 have hpl:=(Vg hx).1
 have hpn:=h.co.ok.np
 have hp:(QI Q u).pc<2147483648:=by show Q.pc<_;omega
 have DH:=Qbf h.co hx
 rw [hd,show decI u=Qz u by unfold decI;rw [hd];rfl] at DH
 have HD:=Vh DH
 have RU:=Qao h.co.own
 rw [hru] at RU
 have HRU:=Vh RU
 have HP:=Vh hp
 have H1:=Vh (fun (w1:World) (hc:Chg [pb] w w1) (hC:Cor w1 kb pb qb (QI Q u))=>h.core (hc.mono (by simp)) hC)
 have EA:=Vh (fun (w':World) (h':CS W w' c sy F S kb pb qb (QI Q u))=>Qeu h' hI hN hn hR (fun li wo=>hR2 li wo) hT (Qz u) hg (by omega) hp)
 have h8:(QI Q u).rg.length=8:=h.co.ok.h8
 clear h hI hN hn hR hR2 hT hru hx hd DH RU ga gb gc gm hg hpl hpn hp
 generalize Qz u=i at *
 generalize QI Q u=Q1 at *
 go_enter Tryz.func87,Tryz.ntmps87
 try dsimp only [List.append]
 go_wp2_with (first |(go_at_call 72;refine HRU.out.mono ?_;rintro e w' ⟨rfl,rfl⟩)|(go_at_call 109;refine HD.out.mono ?_;rintro e w1 ⟨rfl,hC1,hc1⟩;have hb1:=hC1.own;have H1:=Vh (H1.out w1 hc1 hC1);have C1:=Vh hc1;clear hC1 hc1))
 have hx2:(w1.alloc (.cells (insc i) 68)).heap[w1.heap.size]? =some (.cells (insc i) 68 (0,0)):=by simp
 have C2:=Vh (show Chg [] w1 (w1.alloc (.cells (insc i) 68)) from (Chg.refl [] w1).alloc _)
 have hb2:=C2.out.keep hb1 (by simp)
 have H2:=Vh (H1.out.keep0 C2.out)
 have HPK:=Vh (show w1.heap.size≠kb∧w1.heap.size∉F from ⟨by have:=H1.out.co.oldk.lt;omega,fun hm=>by have:=H1.out.old _ hm;omega⟩)
 have G2:=Vh (show Chg (kb::pb::qb::F) w (w1.alloc (.cells (insc i) 68)) from ZS ((C1.out.mono (by simp)).trans (C2.out.mono (by simp))))
 clear hb1 H1 C1 C2 HD HRU
 generalize w1.alloc (.cells (insc i) 68)=w2 at *
 generalize w1.heap.size=p at *
 have o2:=old hb2
 have ox2:=old hx2
 have n1:¬p=kb:=HPK.out.1
 have n2:¬kb=p:=fun e=>HPK.out.1 e.symm
 refine (EA.out _ H2.out).mono ?_
 rintro e w4 ⟨v,F',rfl,hd⟩
 go_wp2_with fail
 go_ret
 exact CSTo.from G2.out (fun k hk=>.inl hk) ⟨v,F',rfl,hd⟩
theorem xexec_12 (hd:decB u=true) (hk:(Qz u).op=12):Calls Tryz.prog 87 #[.pointer (some ⟨kb,0,none⟩),.pointer (some ⟨sy,0,none⟩)] w (CSTo W w c sy F kb pb qb (Xk c S (QI Q u) (Qz u)).S (Xk c S (QI Q u) (Qz u)).Q (Xk c S (QI Q u) (Qz u)).ev):=by
 have _:=hI
 have _:=hN
 have _:=hn
 have _:=hR
 have _:=hR2
 have _:=hT
 have hg:YF (Qz u)=true:=by unfold decB at hd;rw [Bool.and_eq_true] at hd;exact hd.1
 obtain ⟨_,ga,gb,gc,gm⟩:=Zw hg
 have hpl:=(Vg hx).1
 have hpn:=h.co.ok.np
 have hp:(QI Q u).pc<2147483648:=by show Q.pc<_;omega
 have DH:=Qbf h.co hx
 rw [hd,show decI u=Qz u by unfold decI;rw [hd];rfl] at DH
 have HD:=Vh DH
 have RU:=Qao h.co.own
 rw [hru] at RU
 have HRU:=Vh RU
 have HP:=Vh hp
 have H1:=Vh (fun (w1:World) (hc:Chg [pb] w w1) (hC:Cor w1 kb pb qb (QI Q u))=>h.core (hc.mono (by simp)) hC)
 have EA:=Vh (fun (w':World) (h':CS W w' c sy F S kb pb qb (QI Q u))=>Qeu h' hI hN hn hR (fun li wo=>hR2 li wo) hT (Qz u) hg (by omega) hp)
 have h8:(QI Q u).rg.length=8:=h.co.ok.h8
 clear h hI hN hn hR hR2 hT hru hx hd DH RU ga gb gc gm hg hpl hpn hp
 generalize Qz u=i at *
 generalize QI Q u=Q1 at *
 go_enter Tryz.func87,Tryz.ntmps87
 try dsimp only [List.append]
 go_wp2_with (first |(go_at_call 72;refine HRU.out.mono ?_;rintro e w' ⟨rfl,rfl⟩)|(go_at_call 109;refine HD.out.mono ?_;rintro e w1 ⟨rfl,hC1,hc1⟩;have hb1:=hC1.own;have H1:=Vh (H1.out w1 hc1 hC1);have C1:=Vh hc1;clear hC1 hc1))
 have hx2:(w1.alloc (.cells (insc i) 68)).heap[w1.heap.size]? =some (.cells (insc i) 68 (0,0)):=by simp
 have C2:=Vh (show Chg [] w1 (w1.alloc (.cells (insc i) 68)) from (Chg.refl [] w1).alloc _)
 have hb2:=C2.out.keep hb1 (by simp)
 have H2:=Vh (H1.out.keep0 C2.out)
 have HPK:=Vh (show w1.heap.size≠kb∧w1.heap.size∉F from ⟨by have:=H1.out.co.oldk.lt;omega,fun hm=>by have:=H1.out.old _ hm;omega⟩)
 have G2:=Vh (show Chg (kb::pb::qb::F) w (w1.alloc (.cells (insc i) 68)) from ZS ((C1.out.mono (by simp)).trans (C2.out.mono (by simp))))
 clear hb1 H1 C1 C2 HD HRU
 generalize w1.alloc (.cells (insc i) 68)=w2 at *
 generalize w1.heap.size=p at *
 have o2:=old hb2
 have ox2:=old hx2
 have n1:¬p=kb:=HPK.out.1
 have n2:¬kb=p:=fun e=>HPK.out.1 e.symm
 refine (EA.out _ H2.out).mono ?_
 rintro e w4 ⟨v,F',rfl,hd⟩
 go_wp2_with fail
 go_ret
 exact CSTo.from G2.out (fun k hk=>.inl hk) ⟨v,F',rfl,hd⟩
theorem xexec_13 (hd:decB u=true) (hk:(Qz u).op=13):Calls Tryz.prog 87 #[.pointer (some ⟨kb,0,none⟩),.pointer (some ⟨sy,0,none⟩)] w (CSTo W w c sy F kb pb qb (Xk c S (QI Q u) (Qz u)).S (Xk c S (QI Q u) (Qz u)).Q (Xk c S (QI Q u) (Qz u)).ev):=by
 have _:=hI
 have _:=hN
 have _:=hn
 have _:=hR
 have _:=hR2
 have _:=hT
 have hg:YF (Qz u)=true:=by unfold decB at hd;rw [Bool.and_eq_true] at hd;exact hd.1
 obtain ⟨_,ga,gb,gc,gm⟩:=Zw hg
 have hpl:=(Vg hx).1
 have hpn:=h.co.ok.np
 have hp:(QI Q u).pc<2147483648:=by show Q.pc<_;omega
 have DH:=Qbf h.co hx
 rw [hd,show decI u=Qz u by unfold decI;rw [hd];rfl] at DH
 have HD:=Vh DH
 have RU:=Qao h.co.own
 rw [hru] at RU
 have HRU:=Vh RU
 have HP:=Vh hp
 have H1:=Vh (fun (w1:World) (hc:Chg [pb] w w1) (hC:Cor w1 kb pb qb (QI Q u))=>h.core (hc.mono (by simp)) hC)
 have EA:=Vh (fun (w':World) (h':CS W w' c sy F S kb pb qb (QI Q u))=>Qeu h' hI hN hn hR (fun li wo=>hR2 li wo) hT (Qz u) hg (by omega) hp)
 have h8:(QI Q u).rg.length=8:=h.co.ok.h8
 clear h hI hN hn hR hR2 hT hru hx hd DH RU ga gb gc gm hg hpl hpn hp
 generalize Qz u=i at *
 generalize QI Q u=Q1 at *
 go_enter Tryz.func87,Tryz.ntmps87
 try dsimp only [List.append]
 go_wp2_with (first |(go_at_call 72;refine HRU.out.mono ?_;rintro e w' ⟨rfl,rfl⟩)|(go_at_call 109;refine HD.out.mono ?_;rintro e w1 ⟨rfl,hC1,hc1⟩;have hb1:=hC1.own;have H1:=Vh (H1.out w1 hc1 hC1);have C1:=Vh hc1;clear hC1 hc1))
 have hx2:(w1.alloc (.cells (insc i) 68)).heap[w1.heap.size]? =some (.cells (insc i) 68 (0,0)):=by simp
 have C2:=Vh (show Chg [] w1 (w1.alloc (.cells (insc i) 68)) from (Chg.refl [] w1).alloc _)
 have hb2:=C2.out.keep hb1 (by simp)
 have H2:=Vh (H1.out.keep0 C2.out)
 have HPK:=Vh (show w1.heap.size≠kb∧w1.heap.size∉F from ⟨by have:=H1.out.co.oldk.lt;omega,fun hm=>by have:=H1.out.old _ hm;omega⟩)
 have G2:=Vh (show Chg (kb::pb::qb::F) w (w1.alloc (.cells (insc i) 68)) from ZS ((C1.out.mono (by simp)).trans (C2.out.mono (by simp))))
 clear hb1 H1 C1 C2 HD HRU
 generalize w1.alloc (.cells (insc i) 68)=w2 at *
 generalize w1.heap.size=p at *
 have o2:=old hb2
 have ox2:=old hx2
 have n1:¬p=kb:=HPK.out.1
 have n2:¬kb=p:=fun e=>HPK.out.1 e.symm
 refine (EA.out _ H2.out).mono ?_
 rintro e w4 ⟨v,F',rfl,hd⟩
 go_wp2_with fail
 go_ret
 exact CSTo.from G2.out (fun k hk=>.inl hk) ⟨v,F',rfl,hd⟩
theorem xexec_14 (hd:decB u=true) (hk:(Qz u).op=14):Calls Tryz.prog 87 #[.pointer (some ⟨kb,0,none⟩),.pointer (some ⟨sy,0,none⟩)] w (CSTo W w c sy F kb pb qb (Xk c S (QI Q u) (Qz u)).S (Xk c S (QI Q u) (Qz u)).Q (Xk c S (QI Q u) (Qz u)).ev):=by
 have _:=hI
 have _:=hN
 have _:=hn
 have _:=hR
 have _:=hR2
 have _:=hT
 have hg:YF (Qz u)=true:=by unfold decB at hd;rw [Bool.and_eq_true] at hd;exact hd.1
 obtain ⟨_,ga,gb,gc,gm⟩:=Zw hg
 have hpl:=(Vg hx).1
 have hpn:=h.co.ok.np
 have hp:(QI Q u).pc<2147483648:=by show Q.pc<_;omega
 have DH:=Qbf h.co hx
 rw [hd,show decI u=Qz u by unfold decI;rw [hd];rfl] at DH
 have HD:=Vh DH
 have RU:=Qao h.co.own
 rw [hru] at RU
 have HRU:=Vh RU
 have HP:=Vh hp
 have H1:=Vh (fun (w1:World) (hc:Chg [pb] w w1) (hC:Cor w1 kb pb qb (QI Q u))=>h.core (hc.mono (by simp)) hC)
 have EA:=Vh (fun (w':World) (h':CS W w' c sy F S kb pb qb (QI Q u))=>Qeu h' hI hN hn hR (fun li wo=>hR2 li wo) hT (Qz u) hg (by omega) hp)
 have h8:(QI Q u).rg.length=8:=h.co.ok.h8
 clear h hI hN hn hR hR2 hT hru hx hd DH RU ga gb gc gm hg hpl hpn hp
 generalize Qz u=i at *
 generalize QI Q u=Q1 at *
 go_enter Tryz.func87,Tryz.ntmps87
 try dsimp only [List.append]
 go_wp2_with (first |(go_at_call 72;refine HRU.out.mono ?_;rintro e w' ⟨rfl,rfl⟩)|(go_at_call 109;refine HD.out.mono ?_;rintro e w1 ⟨rfl,hC1,hc1⟩;have hb1:=hC1.own;have H1:=Vh (H1.out w1 hc1 hC1);have C1:=Vh hc1;clear hC1 hc1))
 have hx2:(w1.alloc (.cells (insc i) 68)).heap[w1.heap.size]? =some (.cells (insc i) 68 (0,0)):=by simp
 have C2:=Vh (show Chg [] w1 (w1.alloc (.cells (insc i) 68)) from (Chg.refl [] w1).alloc _)
 have hb2:=C2.out.keep hb1 (by simp)
 have H2:=Vh (H1.out.keep0 C2.out)
 have HPK:=Vh (show w1.heap.size≠kb∧w1.heap.size∉F from ⟨by have:=H1.out.co.oldk.lt;omega,fun hm=>by have:=H1.out.old _ hm;omega⟩)
 have G2:=Vh (show Chg (kb::pb::qb::F) w (w1.alloc (.cells (insc i) 68)) from ZS ((C1.out.mono (by simp)).trans (C2.out.mono (by simp))))
 clear hb1 H1 C1 C2 HD HRU
 generalize w1.alloc (.cells (insc i) 68)=w2 at *
 generalize w1.heap.size=p at *
 have o2:=old hb2
 have ox2:=old hx2
 have n1:¬p=kb:=HPK.out.1
 have n2:¬kb=p:=fun e=>HPK.out.1 e.symm
 refine (EA.out _ H2.out).mono ?_
 rintro e w4 ⟨v,F',rfl,hd⟩
 go_wp2_with fail
 go_ret
 exact CSTo.from G2.out (fun k hk=>.inl hk) ⟨v,F',rfl,hd⟩
theorem xexec_15 (hd:decB u=true) (hk:(Qz u).op=15):Calls Tryz.prog 87 #[.pointer (some ⟨kb,0,none⟩),.pointer (some ⟨sy,0,none⟩)] w (CSTo W w c sy F kb pb qb S (if Yu (QI Q u) then Yo (QI Q u) else QI Q u) (if Yu (QI Q u) then [evC (QI Q u) 7 0 0 0] else [])):=by
 have _:=hI
 have _:=hN
 have _:=hn
 have _:=hR
 have _:=hR2
 have _:=hT
 have hg:YF (Qz u)=true:=by unfold decB at hd;rw [Bool.and_eq_true] at hd;exact hd.1
 obtain ⟨_,ga,gb,gc,gm⟩:=Zw hg
 have hpl:=(Vg hx).1
 have hpn:=h.co.ok.np
 have hp:(QI Q u).pc<2147483648:=by show Q.pc<_;omega
 have DH:=Qbf h.co hx
 rw [hd,show decI u=Qz u by unfold decI;rw [hd];rfl] at DH
 have HD:=Vh DH
 have RU:=Qao h.co.own
 rw [hru] at RU
 have HRU:=Vh RU
 have HP:=Vh hp
 have H1:=Vh (fun (w1:World) (hc:Chg [pb] w w1) (hC:Cor w1 kb pb qb (QI Q u))=>h.core (hc.mono (by simp)) hC)
 have EF:=Vh (fun (w':World) (h':CS W w' c sy F S kb pb qb (QI Q u))=>(dfence h'.co h'.old hp).mono fun e w' hd=>h'.ofCo hd)
 have h8:(QI Q u).rg.length=8:=h.co.ok.h8
 clear h hI hN hn hR hR2 hT hru hx hd DH RU ga gb gc gm hg hpl hpn hp
 generalize Qz u=i at *
 generalize QI Q u=Q1 at *
 generalize (if Yu Q1 then Yo Q1 else Q1)=Q2 at *
 generalize (if Yu Q1 then [evC Q1 7 0 0 0] else [])=l2 at *
 go_enter Tryz.func87,Tryz.ntmps87
 try dsimp only [List.append]
 go_wp2_with (first |(go_at_call 72;refine HRU.out.mono ?_;rintro e w' ⟨rfl,rfl⟩)|(go_at_call 109;refine HD.out.mono ?_;rintro e w1 ⟨rfl,hC1,hc1⟩;have hb1:=hC1.own;have H1:=Vh (H1.out w1 hc1 hC1);have C1:=Vh hc1;clear hC1 hc1))
 have hx2:(w1.alloc (.cells (insc i) 68)).heap[w1.heap.size]? =some (.cells (insc i) 68 (0,0)):=by simp
 have C2:=Vh (show Chg [] w1 (w1.alloc (.cells (insc i) 68)) from (Chg.refl [] w1).alloc _)
 have hb2:=C2.out.keep hb1 (by simp)
 have H2:=Vh (H1.out.keep0 C2.out)
 have HPK:=Vh (show w1.heap.size≠kb∧w1.heap.size∉F from ⟨by have:=H1.out.co.oldk.lt;omega,fun hm=>by have:=H1.out.old _ hm;omega⟩)
 have G2:=Vh (show Chg (kb::pb::qb::F) w (w1.alloc (.cells (insc i) 68)) from ZS ((C1.out.mono (by simp)).trans (C2.out.mono (by simp))))
 clear hb1 H1 C1 C2 HD HRU
 generalize w1.alloc (.cells (insc i) 68)=w2 at *
 generalize w1.heap.size=p at *
 have o2:=old hb2
 have ox2:=old hx2
 have n1:¬p=kb:=HPK.out.1
 have n2:¬kb=p:=fun e=>HPK.out.1 e.symm
 refine (EF.out _ H2.out).mono ?_
 rintro e w4 ⟨v,F',rfl,hd⟩
 go_wp2_with fail
 go_ret
 exact CSTo.from G2.out (fun k hk=>.inl hk) ⟨v,F',rfl,hd⟩
theorem xexec_16 (hd:decB u=true) (hk:(Qz u).op=16):Calls Tryz.prog 87 #[.pointer (some ⟨kb,0,none⟩),.pointer (some ⟨sy,0,none⟩)] w (CSTo W w c sy F kb pb qb S (if Yu (QI Q u) then Yo (QI Q u) else QI Q u) (if Yu (QI Q u) then [evC (QI Q u) 7 0 0 0] else [])):=by
 have _:=hI
 have _:=hN
 have _:=hn
 have _:=hR
 have _:=hR2
 have _:=hT
 have hg:YF (Qz u)=true:=by unfold decB at hd;rw [Bool.and_eq_true] at hd;exact hd.1
 obtain ⟨_,ga,gb,gc,gm⟩:=Zw hg
 have hpl:=(Vg hx).1
 have hpn:=h.co.ok.np
 have hp:(QI Q u).pc<2147483648:=by show Q.pc<_;omega
 have DH:=Qbf h.co hx
 rw [hd,show decI u=Qz u by unfold decI;rw [hd];rfl] at DH
 have HD:=Vh DH
 have RU:=Qao h.co.own
 rw [hru] at RU
 have HRU:=Vh RU
 have HP:=Vh hp
 have H1:=Vh (fun (w1:World) (hc:Chg [pb] w w1) (hC:Cor w1 kb pb qb (QI Q u))=>h.core (hc.mono (by simp)) hC)
 have EF:=Vh (fun (w':World) (h':CS W w' c sy F S kb pb qb (QI Q u))=>(dfence h'.co h'.old hp).mono fun e w' hd=>h'.ofCo hd)
 have h8:(QI Q u).rg.length=8:=h.co.ok.h8
 clear h hI hN hn hR hR2 hT hru hx hd DH RU ga gb gc gm hg hpl hpn hp
 generalize Qz u=i at *
 generalize QI Q u=Q1 at *
 generalize (if Yu Q1 then Yo Q1 else Q1)=Q2 at *
 generalize (if Yu Q1 then [evC Q1 7 0 0 0] else [])=l2 at *
 go_enter Tryz.func87,Tryz.ntmps87
 try dsimp only [List.append]
 go_wp2_with (first |(go_at_call 72;refine HRU.out.mono ?_;rintro e w' ⟨rfl,rfl⟩)|(go_at_call 109;refine HD.out.mono ?_;rintro e w1 ⟨rfl,hC1,hc1⟩;have hb1:=hC1.own;have H1:=Vh (H1.out w1 hc1 hC1);have C1:=Vh hc1;clear hC1 hc1))
 have hx2:(w1.alloc (.cells (insc i) 68)).heap[w1.heap.size]? =some (.cells (insc i) 68 (0,0)):=by simp
 have C2:=Vh (show Chg [] w1 (w1.alloc (.cells (insc i) 68)) from (Chg.refl [] w1).alloc _)
 have hb2:=C2.out.keep hb1 (by simp)
 have H2:=Vh (H1.out.keep0 C2.out)
 have HPK:=Vh (show w1.heap.size≠kb∧w1.heap.size∉F from ⟨by have:=H1.out.co.oldk.lt;omega,fun hm=>by have:=H1.out.old _ hm;omega⟩)
 have G2:=Vh (show Chg (kb::pb::qb::F) w (w1.alloc (.cells (insc i) 68)) from ZS ((C1.out.mono (by simp)).trans (C2.out.mono (by simp))))
 clear hb1 H1 C1 C2 HD HRU
 generalize w1.alloc (.cells (insc i) 68)=w2 at *
 generalize w1.heap.size=p at *
 have o2:=old hb2
 have ox2:=old hx2
 have n1:¬p=kb:=HPK.out.1
 have n2:¬kb=p:=fun e=>HPK.out.1 e.symm
 refine (EF.out _ H2.out).mono ?_
 rintro e w4 ⟨v,F',rfl,hd⟩
 go_wp2_with fail
 go_ret
 exact CSTo.from G2.out (fun k hk=>.inl hk) ⟨v,F',rfl,hd⟩
theorem xexec_17 (hd:decB u=true) (hk:(Qz u).op=17):Calls Tryz.prog 87 #[.pointer (some ⟨kb,0,none⟩),.pointer (some ⟨sy,0,none⟩)] w (CSTo W w c sy F kb pb qb S (if goV (Qz u).op (regA (QI Q u) (Qz u).a) (regA (QI Q u) (Qz u).b) then {QI Q u with pc:=(Qz u).im.toNat} else Yo (QI Q u)) []):=by
 have _:=hI
 have _:=hN
 have _:=hn
 have _:=hR
 have _:=hR2
 have _:=hT
 have hg:YF (Qz u)=true:=by unfold decB at hd;rw [Bool.and_eq_true] at hd;exact hd.1
 obtain ⟨_,ga,gb,gc,gm⟩:=Zw hg
 have hpl:=(Vg hx).1
 have hpn:=h.co.ok.np
 have hp:(QI Q u).pc<2147483648:=by show Q.pc<_;omega
 have DH:=Qbf h.co hx
 rw [hd,show decI u=Qz u by unfold decI;rw [hd];rfl] at DH
 have HD:=Vh DH
 have RU:=Qao h.co.own
 rw [hru] at RU
 have HRU:=Vh RU
 have HP:=Vh hp
 have H1:=Vh (fun (w1:World) (hc:Chg [pb] w w1) (hC:Cor w1 kb pb qb (QI Q u))=>h.core (hc.mono (by simp)) hC)
 have hgm:0≤(Qz u).im∧(Qz u).im≤2147483647:=by
  have h1:JC (Qz u).im (Qz u).op=true:=by simp only [YF,Bool.and_eq_true] at hg;exact hg.2.2.2.2
  rw [hk] at h1
  unfold JC XK at h1
  have e1:hasI 17=true:=by decide
  have e2:J7 17=true:=by decide
  rw [e1,e2] at h1
  simp at h1
  omega
 have EJ:=Vh (fun (w':World) (h':CS W w' c sy F S kb pb qb (QI Q u))=>(djump h'.co h'.old (Qz u) ga gb hgm hp).mono fun e w' hd=>h'.ofCo hd)
 have h8:(QI Q u).rg.length=8:=h.co.ok.h8
 clear h hI hN hn hR hR2 hT hru hx hd DH RU ga gb gc gm hg hpl hpn hp
 generalize Qz u=i at *
 generalize QI Q u=Q1 at *
 generalize (if goV i.op (regA Q1 i.a) (regA Q1 i.b) then {Q1 with pc:=i.im.toNat} else Yo Q1)=Q2 at *
 go_enter Tryz.func87,Tryz.ntmps87
 try dsimp only [List.append]
 go_wp2_with (first |(go_at_call 72;refine HRU.out.mono ?_;rintro e w' ⟨rfl,rfl⟩)|(go_at_call 109;refine HD.out.mono ?_;rintro e w1 ⟨rfl,hC1,hc1⟩;have hb1:=hC1.own;have H1:=Vh (H1.out w1 hc1 hC1);have C1:=Vh hc1;clear hC1 hc1))
 have hx2:(w1.alloc (.cells (insc i) 68)).heap[w1.heap.size]? =some (.cells (insc i) 68 (0,0)):=by simp
 have C2:=Vh (show Chg [] w1 (w1.alloc (.cells (insc i) 68)) from (Chg.refl [] w1).alloc _)
 have hb2:=C2.out.keep hb1 (by simp)
 have H2:=Vh (H1.out.keep0 C2.out)
 have HPK:=Vh (show w1.heap.size≠kb∧w1.heap.size∉F from ⟨by have:=H1.out.co.oldk.lt;omega,fun hm=>by have:=H1.out.old _ hm;omega⟩)
 have G2:=Vh (show Chg (kb::pb::qb::F) w (w1.alloc (.cells (insc i) 68)) from ZS ((C1.out.mono (by simp)).trans (C2.out.mono (by simp))))
 clear hb1 H1 C1 C2 HD HRU
 generalize w1.alloc (.cells (insc i) 68)=w2 at *
 generalize w1.heap.size=p at *
 have o2:=old hb2
 have ox2:=old hx2
 have n1:¬p=kb:=HPK.out.1
 have n2:¬kb=p:=fun e=>HPK.out.1 e.symm
 refine (EJ.out _ H2.out).mono ?_
 rintro e w4 ⟨v,F',rfl,hd⟩
 go_wp2_with fail
 go_ret
 exact CSTo.from G2.out (fun k hk=>.inl hk) ⟨v,F',rfl,hd⟩
theorem xexec_18 (hd:decB u=true) (hk:(Qz u).op=18):Calls Tryz.prog 87 #[.pointer (some ⟨kb,0,none⟩),.pointer (some ⟨sy,0,none⟩)] w (CSTo W w c sy F kb pb qb S (if goV (Qz u).op (regA (QI Q u) (Qz u).a) (regA (QI Q u) (Qz u).b) then {QI Q u with pc:=(Qz u).im.toNat} else Yo (QI Q u)) []):=by
 have _:=hI
 have _:=hN
 have _:=hn
 have _:=hR
 have _:=hR2
 have _:=hT
 have hg:YF (Qz u)=true:=by unfold decB at hd;rw [Bool.and_eq_true] at hd;exact hd.1
 obtain ⟨_,ga,gb,gc,gm⟩:=Zw hg
 have hpl:=(Vg hx).1
 have hpn:=h.co.ok.np
 have hp:(QI Q u).pc<2147483648:=by show Q.pc<_;omega
 have DH:=Qbf h.co hx
 rw [hd,show decI u=Qz u by unfold decI;rw [hd];rfl] at DH
 have HD:=Vh DH
 have RU:=Qao h.co.own
 rw [hru] at RU
 have HRU:=Vh RU
 have HP:=Vh hp
 have H1:=Vh (fun (w1:World) (hc:Chg [pb] w w1) (hC:Cor w1 kb pb qb (QI Q u))=>h.core (hc.mono (by simp)) hC)
 have hgm:0≤(Qz u).im∧(Qz u).im≤2147483647:=by
  have h1:JC (Qz u).im (Qz u).op=true:=by simp only [YF,Bool.and_eq_true] at hg;exact hg.2.2.2.2
  rw [hk] at h1
  unfold JC XK at h1
  have e1:hasI 18=true:=by decide
  have e2:J7 18=true:=by decide
  rw [e1,e2] at h1
  simp at h1
  omega
 have EJ:=Vh (fun (w':World) (h':CS W w' c sy F S kb pb qb (QI Q u))=>(djump h'.co h'.old (Qz u) ga gb hgm hp).mono fun e w' hd=>h'.ofCo hd)
 have h8:(QI Q u).rg.length=8:=h.co.ok.h8
 clear h hI hN hn hR hR2 hT hru hx hd DH RU ga gb gc gm hg hpl hpn hp
 generalize Qz u=i at *
 generalize QI Q u=Q1 at *
 generalize (if goV i.op (regA Q1 i.a) (regA Q1 i.b) then {Q1 with pc:=i.im.toNat} else Yo Q1)=Q2 at *
 go_enter Tryz.func87,Tryz.ntmps87
 try dsimp only [List.append]
 go_wp2_with (first |(go_at_call 72;refine HRU.out.mono ?_;rintro e w' ⟨rfl,rfl⟩)|(go_at_call 109;refine HD.out.mono ?_;rintro e w1 ⟨rfl,hC1,hc1⟩;have hb1:=hC1.own;have H1:=Vh (H1.out w1 hc1 hC1);have C1:=Vh hc1;clear hC1 hc1))
 have hx2:(w1.alloc (.cells (insc i) 68)).heap[w1.heap.size]? =some (.cells (insc i) 68 (0,0)):=by simp
 have C2:=Vh (show Chg [] w1 (w1.alloc (.cells (insc i) 68)) from (Chg.refl [] w1).alloc _)
 have hb2:=C2.out.keep hb1 (by simp)
 have H2:=Vh (H1.out.keep0 C2.out)
 have HPK:=Vh (show w1.heap.size≠kb∧w1.heap.size∉F from ⟨by have:=H1.out.co.oldk.lt;omega,fun hm=>by have:=H1.out.old _ hm;omega⟩)
 have G2:=Vh (show Chg (kb::pb::qb::F) w (w1.alloc (.cells (insc i) 68)) from ZS ((C1.out.mono (by simp)).trans (C2.out.mono (by simp))))
 clear hb1 H1 C1 C2 HD HRU
 generalize w1.alloc (.cells (insc i) 68)=w2 at *
 generalize w1.heap.size=p at *
 have o2:=old hb2
 have ox2:=old hx2
 have n1:¬p=kb:=HPK.out.1
 have n2:¬kb=p:=fun e=>HPK.out.1 e.symm
 refine (EJ.out _ H2.out).mono ?_
 rintro e w4 ⟨v,F',rfl,hd⟩
 go_wp2_with fail
 go_ret
 exact CSTo.from G2.out (fun k hk=>.inl hk) ⟨v,F',rfl,hd⟩
theorem xexec_19 (hd:decB u=true) (hk:(Qz u).op=19):Calls Tryz.prog 87 #[.pointer (some ⟨kb,0,none⟩),.pointer (some ⟨sy,0,none⟩)] w (CSTo W w c sy F kb pb qb S (if goV (Qz u).op (regA (QI Q u) (Qz u).a) (regA (QI Q u) (Qz u).b) then {QI Q u with pc:=(Qz u).im.toNat} else Yo (QI Q u)) []):=by
 have _:=hI
 have _:=hN
 have _:=hn
 have _:=hR
 have _:=hR2
 have _:=hT
 have hg:YF (Qz u)=true:=by unfold decB at hd;rw [Bool.and_eq_true] at hd;exact hd.1
 obtain ⟨_,ga,gb,gc,gm⟩:=Zw hg
 have hpl:=(Vg hx).1
 have hpn:=h.co.ok.np
 have hp:(QI Q u).pc<2147483648:=by show Q.pc<_;omega
 have DH:=Qbf h.co hx
 rw [hd,show decI u=Qz u by unfold decI;rw [hd];rfl] at DH
 have HD:=Vh DH
 have RU:=Qao h.co.own
 rw [hru] at RU
 have HRU:=Vh RU
 have HP:=Vh hp
 have H1:=Vh (fun (w1:World) (hc:Chg [pb] w w1) (hC:Cor w1 kb pb qb (QI Q u))=>h.core (hc.mono (by simp)) hC)
 have hgm:0≤(Qz u).im∧(Qz u).im≤2147483647:=by
  have h1:JC (Qz u).im (Qz u).op=true:=by simp only [YF,Bool.and_eq_true] at hg;exact hg.2.2.2.2
  rw [hk] at h1
  unfold JC XK at h1
  have e1:hasI 19=true:=by decide
  have e2:J7 19=true:=by decide
  rw [e1,e2] at h1
  simp at h1
  omega
 have EJ:=Vh (fun (w':World) (h':CS W w' c sy F S kb pb qb (QI Q u))=>(djump h'.co h'.old (Qz u) ga gb hgm hp).mono fun e w' hd=>h'.ofCo hd)
 have h8:(QI Q u).rg.length=8:=h.co.ok.h8
 clear h hI hN hn hR hR2 hT hru hx hd DH RU ga gb gc gm hg hpl hpn hp
 generalize Qz u=i at *
 generalize QI Q u=Q1 at *
 generalize (if goV i.op (regA Q1 i.a) (regA Q1 i.b) then {Q1 with pc:=i.im.toNat} else Yo Q1)=Q2 at *
 go_enter Tryz.func87,Tryz.ntmps87
 try dsimp only [List.append]
 go_wp2_with (first |(go_at_call 72;refine HRU.out.mono ?_;rintro e w' ⟨rfl,rfl⟩)|(go_at_call 109;refine HD.out.mono ?_;rintro e w1 ⟨rfl,hC1,hc1⟩;have hb1:=hC1.own;have H1:=Vh (H1.out w1 hc1 hC1);have C1:=Vh hc1;clear hC1 hc1))
 have hx2:(w1.alloc (.cells (insc i) 68)).heap[w1.heap.size]? =some (.cells (insc i) 68 (0,0)):=by simp
 have C2:=Vh (show Chg [] w1 (w1.alloc (.cells (insc i) 68)) from (Chg.refl [] w1).alloc _)
 have hb2:=C2.out.keep hb1 (by simp)
 have H2:=Vh (H1.out.keep0 C2.out)
 have HPK:=Vh (show w1.heap.size≠kb∧w1.heap.size∉F from ⟨by have:=H1.out.co.oldk.lt;omega,fun hm=>by have:=H1.out.old _ hm;omega⟩)
 have G2:=Vh (show Chg (kb::pb::qb::F) w (w1.alloc (.cells (insc i) 68)) from ZS ((C1.out.mono (by simp)).trans (C2.out.mono (by simp))))
 clear hb1 H1 C1 C2 HD HRU
 generalize w1.alloc (.cells (insc i) 68)=w2 at *
 generalize w1.heap.size=p at *
 have o2:=old hb2
 have ox2:=old hx2
 have n1:¬p=kb:=HPK.out.1
 have n2:¬kb=p:=fun e=>HPK.out.1 e.symm
 refine (EJ.out _ H2.out).mono ?_
 rintro e w4 ⟨v,F',rfl,hd⟩
 go_wp2_with fail
 go_ret
 exact CSTo.from G2.out (fun k hk=>.inl hk) ⟨v,F',rfl,hd⟩
theorem xexec_20 (hd:decB u=true) (hk:(Qz u).op=20):Calls Tryz.prog 87 #[.pointer (some ⟨kb,0,none⟩),.pointer (some ⟨sy,0,none⟩)] w (CSTo W w c sy F kb pb qb S (if goV (Qz u).op (regA (QI Q u) (Qz u).a) (regA (QI Q u) (Qz u).b) then {QI Q u with pc:=(Qz u).im.toNat} else Yo (QI Q u)) []):=by
 have _:=hI
 have _:=hN
 have _:=hn
 have _:=hR
 have _:=hR2
 have _:=hT
 have hg:YF (Qz u)=true:=by unfold decB at hd;rw [Bool.and_eq_true] at hd;exact hd.1
 obtain ⟨_,ga,gb,gc,gm⟩:=Zw hg
 have hpl:=(Vg hx).1
 have hpn:=h.co.ok.np
 have hp:(QI Q u).pc<2147483648:=by show Q.pc<_;omega
 have DH:=Qbf h.co hx
 rw [hd,show decI u=Qz u by unfold decI;rw [hd];rfl] at DH
 have HD:=Vh DH
 have RU:=Qao h.co.own
 rw [hru] at RU
 have HRU:=Vh RU
 have HP:=Vh hp
 have H1:=Vh (fun (w1:World) (hc:Chg [pb] w w1) (hC:Cor w1 kb pb qb (QI Q u))=>h.core (hc.mono (by simp)) hC)
 have hgm:0≤(Qz u).im∧(Qz u).im≤2147483647:=by
  have h1:JC (Qz u).im (Qz u).op=true:=by simp only [YF,Bool.and_eq_true] at hg;exact hg.2.2.2.2
  rw [hk] at h1
  unfold JC XK at h1
  have e1:hasI 20=true:=by decide
  have e2:J7 20=true:=by decide
  rw [e1,e2] at h1
  simp at h1
  omega
 have EJ:=Vh (fun (w':World) (h':CS W w' c sy F S kb pb qb (QI Q u))=>(djump h'.co h'.old (Qz u) ga gb hgm hp).mono fun e w' hd=>h'.ofCo hd)
 have h8:(QI Q u).rg.length=8:=h.co.ok.h8
 clear h hI hN hn hR hR2 hT hru hx hd DH RU ga gb gc gm hg hpl hpn hp
 generalize Qz u=i at *
 generalize QI Q u=Q1 at *
 generalize (if goV i.op (regA Q1 i.a) (regA Q1 i.b) then {Q1 with pc:=i.im.toNat} else Yo Q1)=Q2 at *
 go_enter Tryz.func87,Tryz.ntmps87
 try dsimp only [List.append]
 go_wp2_with (first |(go_at_call 72;refine HRU.out.mono ?_;rintro e w' ⟨rfl,rfl⟩)|(go_at_call 109;refine HD.out.mono ?_;rintro e w1 ⟨rfl,hC1,hc1⟩;have hb1:=hC1.own;have H1:=Vh (H1.out w1 hc1 hC1);have C1:=Vh hc1;clear hC1 hc1))
 have hx2:(w1.alloc (.cells (insc i) 68)).heap[w1.heap.size]? =some (.cells (insc i) 68 (0,0)):=by simp
 have C2:=Vh (show Chg [] w1 (w1.alloc (.cells (insc i) 68)) from (Chg.refl [] w1).alloc _)
 have hb2:=C2.out.keep hb1 (by simp)
 have H2:=Vh (H1.out.keep0 C2.out)
 have HPK:=Vh (show w1.heap.size≠kb∧w1.heap.size∉F from ⟨by have:=H1.out.co.oldk.lt;omega,fun hm=>by have:=H1.out.old _ hm;omega⟩)
 have G2:=Vh (show Chg (kb::pb::qb::F) w (w1.alloc (.cells (insc i) 68)) from ZS ((C1.out.mono (by simp)).trans (C2.out.mono (by simp))))
 clear hb1 H1 C1 C2 HD HRU
 generalize w1.alloc (.cells (insc i) 68)=w2 at *
 generalize w1.heap.size=p at *
 have o2:=old hb2
 have ox2:=old hx2
 have n1:¬p=kb:=HPK.out.1
 have n2:¬kb=p:=fun e=>HPK.out.1 e.symm
 refine (EJ.out _ H2.out).mono ?_
 rintro e w4 ⟨v,F',rfl,hd⟩
 go_wp2_with fail
 go_ret
 exact CSTo.from G2.out (fun k hk=>.inl hk) ⟨v,F',rfl,hd⟩
theorem xexec_21 (hd:decB u=true) (hk:(Qz u).op=21):Calls Tryz.prog 87 #[.pointer (some ⟨kb,0,none⟩),.pointer (some ⟨sy,0,none⟩)] w (CSTo W w c sy F kb pb qb S (Yo (QI Q u)) [evC (QI Q u) 8 0 0 (regA (QI Q u) (Qz u).a)]):=by
 have _:=hI
 have _:=hN
 have _:=hn
 have _:=hR
 have _:=hR2
 have _:=hT
 have hg:YF (Qz u)=true:=by unfold decB at hd;rw [Bool.and_eq_true] at hd;exact hd.1
 obtain ⟨_,ga,gb,gc,gm⟩:=Zw hg
 have hpl:=(Vg hx).1
 have hpn:=h.co.ok.np
 have hp:(QI Q u).pc<2147483648:=by show Q.pc<_;omega
 have DH:=Qbf h.co hx
 rw [hd,show decI u=Qz u by unfold decI;rw [hd];rfl] at DH
 have HD:=Vh DH
 have RU:=Qao h.co.own
 rw [hru] at RU
 have HRU:=Vh RU
 have HP:=Vh hp
 have H1:=Vh (fun (w1:World) (hc:Chg [pb] w w1) (hC:Cor w1 kb pb qb (QI Q u))=>h.core (hc.mono (by simp)) hC)
 obtain ⟨na,hna⟩:∃n:Nat,(Qz u).a=(n:Int):=⟨(Qz u).a.toNat,by omega⟩
 have la:na<8:=by omega
 have la':(na:Int)<8:=by omega
 have ea:regA (QI Q u) (Qz u).a=regN (QI Q u).rg na:=by unfold regA;rw [hna,Int.toNat_natCast]
 rw [ea]
 clear ea
 have h8:(QI Q u).rg.length=8:=h.co.ok.h8
 clear h hI hN hn hR hR2 hT hru hx hd DH RU ga gb gc gm hg hpl hpn hp
 generalize Qz u=i at *
 generalize QI Q u=Q1 at *
 go_enter Tryz.func87,Tryz.ntmps87
 try dsimp only [List.append]
 go_wp2_with (first |(go_at_call 72;refine HRU.out.mono ?_;rintro e w' ⟨rfl,rfl⟩)|(go_at_call 109;refine HD.out.mono ?_;rintro e w1 ⟨rfl,hC1,hc1⟩;have hb1:=hC1.own;have H1:=Vh (H1.out w1 hc1 hC1);have C1:=Vh hc1;clear hC1 hc1))
 have hx2:(w1.alloc (.cells (insc i) 68)).heap[w1.heap.size]? =some (.cells (insc i) 68 (0,0)):=by simp
 have C2:=Vh (show Chg [] w1 (w1.alloc (.cells (insc i) 68)) from (Chg.refl [] w1).alloc _)
 have hb2:=C2.out.keep hb1 (by simp)
 have H2:=Vh (H1.out.keep0 C2.out)
 have HPK:=Vh (show w1.heap.size≠kb∧w1.heap.size∉F from ⟨by have:=H1.out.co.oldk.lt;omega,fun hm=>by have:=H1.out.old _ hm;omega⟩)
 have G2:=Vh (show Chg (kb::pb::qb::F) w (w1.alloc (.cells (insc i) 68)) from ZS ((C1.out.mono (by simp)).trans (C2.out.mono (by simp))))
 clear hb1 H1 C1 C2 HD HRU
 generalize w1.alloc (.cells (insc i) 68)=w2 at *
 generalize w1.heap.size=p at *
 have o2:=old hb2
 have ox2:=old hx2
 have n1:¬p=kb:=HPK.out.1
 have n2:¬kb=p:=fun e=>HPK.out.1 e.symm
 have H3:=Vh (H2.out.keep0 ((Chg.refl [] w2).drew))
 have G3:=Vh (G2.out.drew)
 have hb3:=H3.out.co.own
 go_region_law (first |(go_simp;go_at_call 114;refine (Qcv hb3 8 0 0 (regN Q1.rg na)).mono ?_;rintro e w5 ⟨rfl,c5⟩;have HC5:=Vh c5;clear c5)|(go_simp;go_at_call 113;refine (Qfm H3.out.co H3.out.old HC5.out _ HP.out).mono ?_;rintro e w6 ⟨v,rfl,hv⟩))
 all_goals
  go_wp2_with fail
  go_ret
  exact CSTo.from G3.out (fun k hk=>.inl hk) (H3.out.ofCo ⟨v,rfl,hv⟩)
theorem xexec_22 (hd:decB u=true) (hk:(Qz u).op=22):Calls Tryz.prog 87 #[.pointer (some ⟨kb,0,none⟩),.pointer (some ⟨sy,0,none⟩)] w (CSTo W w c sy F kb pb qb S (Qez (QI Q u)) [evC (QI Q u) 9 0 0 0]):=by
 have _:=hI
 have _:=hN
 have _:=hn
 have _:=hR
 have _:=hR2
 have _:=hT
 have hg:YF (Qz u)=true:=by unfold decB at hd;rw [Bool.and_eq_true] at hd;exact hd.1
 obtain ⟨_,ga,gb,gc,gm⟩:=Zw hg
 have hpl:=(Vg hx).1
 have hpn:=h.co.ok.np
 have hp:(QI Q u).pc<2147483648:=by show Q.pc<_;omega
 have DH:=Qbf h.co hx
 rw [hd,show decI u=Qz u by unfold decI;rw [hd];rfl] at DH
 have HD:=Vh DH
 have RU:=Qao h.co.own
 rw [hru] at RU
 have HRU:=Vh RU
 have HP:=Vh hp
 have H1:=Vh (fun (w1:World) (hc:Chg [pb] w w1) (hC:Cor w1 kb pb qb (QI Q u))=>h.core (hc.mono (by simp)) hC)
 have ED:=Vh (fun (w':World) (h':CS W w' c sy F S kb pb qb (QI Q u)) (kd:Int)=>(dend h'.co h'.old kd).mono fun e w' hd=>h'.ofCo hd)
 have h8:(QI Q u).rg.length=8:=h.co.ok.h8
 clear h hI hN hn hR hR2 hT hru hx hd DH RU ga gb gc gm hg hpl hpn hp
 generalize Qz u=i at *
 generalize QI Q u=Q1 at *
 go_enter Tryz.func87,Tryz.ntmps87
 try dsimp only [List.append]
 go_wp2_with (first |(go_at_call 72;refine HRU.out.mono ?_;rintro e w' ⟨rfl,rfl⟩)|(go_at_call 109;refine HD.out.mono ?_;rintro e w1 ⟨rfl,hC1,hc1⟩;have hb1:=hC1.own;have H1:=Vh (H1.out w1 hc1 hC1);have C1:=Vh hc1;clear hC1 hc1))
 have hx2:(w1.alloc (.cells (insc i) 68)).heap[w1.heap.size]? =some (.cells (insc i) 68 (0,0)):=by simp
 have C2:=Vh (show Chg [] w1 (w1.alloc (.cells (insc i) 68)) from (Chg.refl [] w1).alloc _)
 have hb2:=C2.out.keep hb1 (by simp)
 have H2:=Vh (H1.out.keep0 C2.out)
 have HPK:=Vh (show w1.heap.size≠kb∧w1.heap.size∉F from ⟨by have:=H1.out.co.oldk.lt;omega,fun hm=>by have:=H1.out.old _ hm;omega⟩)
 have G2:=Vh (show Chg (kb::pb::qb::F) w (w1.alloc (.cells (insc i) 68)) from ZS ((C1.out.mono (by simp)).trans (C2.out.mono (by simp))))
 clear hb1 H1 C1 C2 HD HRU
 generalize w1.alloc (.cells (insc i) 68)=w2 at *
 generalize w1.heap.size=p at *
 have o2:=old hb2
 have ox2:=old hx2
 have n1:¬p=kb:=HPK.out.1
 have n2:¬kb=p:=fun e=>HPK.out.1 e.symm
 refine (ED.out _ H2.out 9).mono ?_
 rintro e w4 ⟨v,F',rfl,hd⟩
 go_wp2_with fail
 go_ret
 exact CSTo.from G2.out (fun k hk=>.inl hk) ⟨v,F',rfl,hd⟩
end
end
section
section
variable {W w:World} {c:Cg} {sy n:Nat} {F:List Nat} {S:Mst} {cur:Nat→List Int} {kb pb qb:Nat} {Q:Co} (h:CS W w c sy F S kb pb qb Q)
include h
theorem xexec_off (hru:Q.ru=false) (s:Nat):Calls Tryz.prog 87 #[.pointer (some ⟨kb,0,none⟩),.pointer (some ⟨s,0,none⟩)] w (CSTo W w c sy F kb pb qb S Q []):=by
 have RU:=Qao h.co.own
 rw [hru] at RU
 have HRU:=Vh RU
 have H:=Vh h
 clear h hru RU
 go_enter Tryz.func87,Tryz.ntmps87
 try dsimp only [List.append]
 go_wp2_with (go_at_call 72;refine HRU.out.mono ?_;rintro e w' ⟨rfl,rfl⟩)
 go_ret
 exact ⟨_,F,rfl,EvV.nil ..,H.out,Chg.refl _ _,fun k hk=>.inl hk⟩
theorem xexec_end (hru:Q.ru=true) (hx:Q.pr.length≤Q.pc) (s:Nat):Calls Tryz.prog 87 #[.pointer (some ⟨kb,0,none⟩),.pointer (some ⟨s,0,none⟩)] w (CSTo W w c sy F kb pb qb S (Qez Q) [evC Q 10 0 0 0]):=by
 have RU:=Qao h.co.own
 rw [hru] at RU
 have HRU:=Vh RU
 have HD:=Vh (dhere_none h.co hx)
 have H:=Vh h
 have ED:=Vh (fun (w':World) (h':CS W w' c sy F S kb pb qb Q) (kd:Int)=>(dend h'.co h'.old kd).mono fun e w' hd=>h'.ofCo hd)
 clear h hru RU hx
 go_enter Tryz.func87,Tryz.ntmps87
 try dsimp only [List.append]
 go_wp2_with (first |(go_at_call 72;refine HRU.out.mono ?_;rintro e w' ⟨rfl,rfl⟩)|(go_at_call 109;refine HD.out.mono ?_;rintro e w1 ⟨rfl,hc1⟩;have C1:=Vh hc1;clear hc1))
 have C2:Chg [] w (w1.alloc (.cells (insc insZ) 68)):=C1.out.alloc _
 refine (ED.out _ (H.out.keep0 C2) 10).mono ?_
 rintro e w4 ⟨v,F',rfl,hd⟩
 go_wp2_with fail
 go_ret
 exact CSTo.from (C2.mono (by simp)) (fun k hk=>.inl hk) ⟨v,F',rfl,hd⟩
theorem ebuffer:Calls Tryz.prog 73 #[.pointer (some ⟨kb,0,none⟩)] w fun e w'=>∃b,e=.returned (.slice (some ⟨b,0,none⟩) Q.es.length Q.es.length)∧w.heap.size≤b∧Chg [] w w'∧w'.heap[b]? =some (.cells (sq Se.enc Q.es []) 177 (0,0)):=by
 have h8:=h.co.ok.h8
 have hb:=h.co.own
 have HA:=Vh (sall_ok h.co.buf)
 clear h
 generalize Q.es=es at *
 go_enter Tryz.func73,Tryz.ntmps73
 go_wp2_with (go_at_call 101;refine HA.out.mono ?_;rintro e w2 ⟨b,rfl,hk,hc,hv⟩;have HK:=Vh hk;have HC:=Vh hc;have HV:=Vh hv;clear hk hc hv)
 go_ret
 exact ⟨b,rfl,HK.out,HC.out,HV.out⟩
variable (hI:Inv c n S cur) (hn:n≤1000000000) (hR:Roomy c S) (hT:Tab W)
include hI hn hR hT
theorem edrain:Calls Tryz.prog 88 #[.pointer (some ⟨kb,0,none⟩),.pointer (some ⟨sy,0,none⟩)] w (CSTo W w c sy F kb pb qb (Qae c S Q).S (Qae c S Q).Q (Qae c S Q).ev):=by
 have h8:=h.co.ok.h8
 have hb:=h.co.own
 have HH:=Vh (shead_ok h.co.buf)
 have H:=Vh h
 unfold Qae
 cases hes:Q.es with
 |nil=>
  rw [hes] at HH
  show Calls _ _ _ _ (CSTo W w c sy F kb pb qb S Q [])
  clear h hI hn hR hT hes
  go_enter Tryz.func88,Tryz.ntmps88
  try dsimp only [List.append]
  go_wp2_with (go_at_call 117;refine HH.out.mono ?_;rintro e w1 ⟨rfl,hc⟩;have C1:=Vh hc;clear hc)
  go_ret
  have C2:Chg [] w (w1.alloc (.cells (sec (hdE [])) 177)):=C1.out.alloc _
  exact ⟨_,F,rfl,EvV.nil ..,H.out.keep0 C2,C2.mono (by simp),fun k hk=>.inl hk⟩
 |cons x rest=>
  rw [hes,show hdE (x::rest)=x from rfl,show hdB (x::rest)=true from rfl] at HH
  have ST:=Vh (fun (w':World) (h':CS W w' c sy F S kb pb qb Q)=>estore h' hI hn hR hT hes)
  have SN:=Vh (fun (w':World) (h':CS W w' c sy F S kb pb qb Q)=>esend h' hI hn hR hT hes)
  have EF:=Vh (fun (w':World) (h':CS W w' c sy F S kb pb qb Q)=>dendFlush h'.co)
  rw [hes,show (x::rest).tail=rest from rfl] at EF
  dsimp only
  clear h hI hn hR hT hes
  by_cases h9:x.kd=9
  ·rw [if_pos h9]
   have k9:(x.kd==9)=true:=by simp [h9]
   have e1:∀(D1 D2:Qgl),True:=fun _ _=>trivial
   have eS:(if (storeM c S Q.id x.li x.wo x.va).2.hit=true then (⟨(storeM c S Q.id x.li x.wo x.va).1,{Q with es:=rest},[evC Q 3 x.li x.wo x.va]⟩:Qgl) else ⟨(storeM c S Q.id x.li x.wo x.va).1,Q,[]⟩)=⟨(storeM c S Q.id x.li x.wo x.va).1,if (storeM c S Q.id x.li x.wo x.va).2.hit=true then {Q with es:=rest} else Q,if (storeM c S Q.id x.li x.wo x.va).2.hit=true then [evC Q 3 x.li x.wo x.va] else []⟩:=by split<;>rfl
   rw [eS]
   dsimp only
   generalize (if (storeM c S Q.id x.li x.wo x.va).2.hit=true then {Q with es:=rest} else Q)=Q2 at *
   generalize (if (storeM c S Q.id x.li x.wo x.va).2.hit=true then [evC Q 3 x.li x.wo x.va] else [])=l2 at *
   clear h9 eS e1
   go_enter Tryz.func88,Tryz.ntmps88
   try dsimp only [List.append]
   go_wp2_with (go_at_call 117;refine HH.out.mono ?_;rintro e w1 ⟨rfl,hc⟩;have C1:=Vh hc;clear hc)
   have C2:Chg [] w (w1.alloc (.cells (sec x) 177)):=C1.out.alloc _
   refine (ST.out _ (H.out.keep0 C2)).mono ?_
   rintro e w4 ⟨v,F',rfl,hd⟩
   go_wp2_with fail
   go_ret
   exact CSTo.from (C2.mono (by simp)) (fun k hk=>.inl hk) ⟨v,F',rfl,hd⟩
  ·rw [if_neg h9]
   have k9:(x.kd==9)=false:=by simp [h9]
   clear h9
   cases hsn:x.sn
   ·rw [if_neg (by decide)]
    have eS:(if 16≤Q.wt then (⟨S,Q,[]⟩:Qgl) else if (flushM c S Q.id x.li (JK x.kd)).2.e=0 then ⟨(flushM c S Q.id x.li (JK x.kd)).1,{Q with es:=(if x.kd=14 then sent x::rest else rest),wt:=Q.wt+1},[evC Q 13 x.li 0 0]⟩ else ⟨(flushM c S Q.id x.li (JK x.kd)).1,Q,[]⟩)=⟨if 16≤Q.wt then S else (flushM c S Q.id x.li (JK x.kd)).1,if 16≤Q.wt then Q else if (flushM c S Q.id x.li (JK x.kd)).2.e=0 then {Q with es:=(if x.kd=14 then sent x::rest else rest),wt:=Q.wt+1} else Q,if 16≤Q.wt then [] else if (flushM c S Q.id x.li (JK x.kd)).2.e=0 then [evC Q 13 x.li 0 0] else []⟩:=by
     split
     ·rfl
     ·split<;>rfl
    rw [eS]
    dsimp only
    generalize (if 16≤Q.wt then S else (flushM c S Q.id x.li (JK x.kd)).1)=S2 at *
    generalize (if 16≤Q.wt then Q else if (flushM c S Q.id x.li (JK x.kd)).2.e=0 then {Q with es:=(if x.kd=14 then sent x::rest else rest),wt:=Q.wt+1} else Q)=Q2 at *
    generalize (if 16≤Q.wt then [] else if (flushM c S Q.id x.li (JK x.kd)).2.e=0 then [evC Q 13 x.li 0 0] else [])=l2 at *
    clear eS
    go_enter Tryz.func88,Tryz.ntmps88
    try dsimp only [List.append]
    go_wp2_with (go_at_call 117;refine HH.out.mono ?_;rintro e w1 ⟨rfl,hc⟩;have C1:=Vh hc;clear hc)
    have C2:Chg [] w (w1.alloc (.cells (sec x) 177)):=C1.out.alloc _
    refine (SN.out _ (H.out.keep0 C2)).mono ?_
    rintro e w4 ⟨v,F',rfl,hd⟩
    go_wp2_with fail
    go_ret
    exact CSTo.from (C2.mono (by simp)) (fun k hk=>.inl hk) ⟨v,F',rfl,hd⟩
   ·rw [if_pos rfl]
    have eS:(if Q.wt=0 then (⟨S,{Q with es:=rest},[]⟩:Qgl) else ⟨S,Q,[]⟩)=⟨S,if Q.wt=0 then {Q with es:=rest} else Q,[]⟩:=by split<;>rfl
    rw [eS]
    dsimp only
    generalize (if Q.wt=0 then {Q with es:=rest} else Q)=Q2 at *
    clear eS
    go_enter Tryz.func88,Tryz.ntmps88
    try dsimp only [List.append]
    go_wp2_with (go_at_call 117;refine HH.out.mono ?_;rintro e w1 ⟨rfl,hc⟩;have C1:=Vh hc;clear hc)
    have C2:Chg [] w (w1.alloc (.cells (sec x) 177)):=C1.out.alloc _
    refine (EF.out _ (H.out.keep0 C2)).mono ?_
    rintro e w4 ⟨rfl,hC,hc⟩
    have HC:=Vh hC
    have HCH:=Vh hc
    clear hC hc
    go_wp2_with fail
    go_ret
    exact CSTo.from (C2.mono (by simp)) (fun k hk=>.inl hk) ⟨_,F,rfl,EvV.nil ..,(H.out.keep0 C2).core (HCH.out.mono (by simp)) HC.out,HCH.out.mono (by simp),fun k hk=>.inl hk⟩
end
end
section
def stcZ:Stc:=⟨0,0,0,0,insZ,false⟩
def stcV:Value:=.agg (Stc.enc stcZ).toArray
theorem stcV_size:stcV.cells.size=10:=rfl
theorem stc_info:(Tryz.prog.info? 192).map (fun i=>(i.zero,i.size,i.bytes))=some (some stcV,10,72):=by kernel_rfl
theorem made_stc (n:Nat):madeCells stcV.cells (n*10)=sq Stc.enc (List.replicate n stcZ) []:=by
 apply Array.ext
 ·rw [Jw Stc.len]
  simp [madeCells]
 ·intro k h1 h2
  have hk:k<n*10:=by simpa [madeCells] using h1
  obtain ⟨i,j,hj,rfl⟩:∃i j,j<10∧k=i*10+j:=⟨k / 10,k % 10,Nat.mod_lt _ (by omega),by omega⟩
  have hi:i<n:=by omega
  have h3:=JM (enc:=Stc.enc) Stc.len (xs:=List.replicate n stcZ) (i:=i) (a:=stcZ) (by simp [hi]) [] j hj
  rw [Array.getElem?_eq_getElem h2] at h3
  have h5:j=0∨j=1∨j=2∨j=3∨j=4∨j=5∨j=6∨j=7∨j=8∨j=9:=by omega
  have h6:(i*10+j) % 10=j:=by omega
  have h7:stcV.cells.size=10:=stcV_size
  apply Option.some.inj
  rw [h3]
  simp only [madeCells,Array.getElem_map,Array.getElem_range,h7,h6]
  rcases h5 with rfl|rfl|rfl|rfl|rfl|rfl|rfl|rfl|rfl|rfl<;>rfl
theorem run_make_stc (w:World) (n:Nat) (hn:n≤5000):mkR Tryz.prog 133 (.int .i64 n) (.int .i64 n) w=.ok (.slice (some ⟨w.heap.size,0,none⟩) n n) (w.alloc (.cells (sq Stc.enc (List.replicate n stcZ) []) 192)):=by
 obtain ⟨i0,hi0,hz0,hz1,hz2⟩:=info_parts stc_info
 have:=run_make (P:=Tryz.prog) w 133 192 i0 _ Tryz.underlying133 hi0 hz0 .i64 .i64 n n (by omega) (by omega) (by rw [hz2];omega) (by omega)
 simp only [Int.toNat_natCast,hz1] at this
 rw [←made_stc]
 exact this
def Qep (us:List Int):List (Int×Bool):=us.map fun u=>(u,false)
def Qid (us:List Int) (k:Nat):List Stc:=(Qep (us.take k)).map stp++List.replicate (us.length-k) stcZ
theorem fillS_zero (us:List Int):Qid us 0=List.replicate us.length stcZ:=by simp [Qid,Qep]
theorem fillS_all (us:List Int):Qid us us.length=(Qep us).map stp:=by simp [Qid]
theorem fillS_at {us:List Int} {k:Nat} (hk:k<us.length):(Qid us k)[k]? =some stcZ:=by
 unfold Qid
 have e1:((Qep (us.take k)).map stp).length=k:=by simp [Qep];omega
 rw [List.getElem?_append_right (by omega),e1,Nat.sub_self,List.getElem?_replicate,if_pos (by omega)]
theorem fillS_succ {us:List Int} {k:Nat} {u:Int} (h:us[k]? =some u):(Qid us k).set k {stcZ with u:=u}=Qid us (k+1):=by
 obtain ⟨hk,rfl⟩:=Vg h
 unfold Qid
 obtain ⟨m,hm⟩:∃m,us.length-k=m+1:=⟨us.length-k-1,by omega⟩
 have e1:((Qep (us.take k)).map stp).length=k:=by simp [Qep];omega
 rw [List.set_append_right _ _ (by omega),e1,Nat.sub_self,hm,show us.length-(k+1)=m by omega,List.replicate_succ,List.set_cons_zero,List.take_succ_eq_append_getElem hk]
 unfold Qep
 rw [List.map_append,List.map_append,List.append_assoc]
 rfl
theorem csteps {w:World} {A:Option Addr} {n cap:Nat} {us:List Int} (hs:Sl w 1 A n (us.map (Value.int .u64))) (hn:us.length=n) (h5:n≤5000):Calls Tryz.prog 56 #[.slice A n cap] w fun e w'=>∃b,e=.returned (.slice (some ⟨b,0,none⟩) n n)∧w.heap.size≤b∧Chg [] w w'∧Sts w' b ((Qep us).map stp):=by
 subst hn
 have hmk:=run_make_stc w us.length h5
 have c1:=(Chg.refl [] w).alloc (.cells (sq Stc.enc (List.replicate us.length stcZ) []) 192)
 have hb1:(w.alloc (.cells (sq Stc.enc (List.replicate us.length stcZ) []) 192)).heap[w.heap.size]? =some (.cells (sq Stc.enc (List.replicate us.length stcZ) []) 192 (0,0)):=by simp
 generalize w.alloc (.cells (sq Stc.enc (List.replicate us.length stcZ) []) 192)=w1 at hmk c1 hb1
 have HB1:=Vh hb1
 have HC1:=Vh c1
 have HS:=Vh hs
 have HL:=Vh h5
 have hl5:(us.length:Int)≤5000:=by omega
 clear hb1 c1 hs h5
 go_enter Tryz.func56,Tryz.ntmps56
 go_wp2_with fail
 generalize hp:w.heap.size=p at HB1
 have HP:=Vh hp
 clear hp
 go_loopw [4,5,11] (fun _ _ i wr=>∃k:Nat,k≤us.length∧i=.int .i64 k∧Chg [p] w1 wr∧wr.heap[p]? =some (.cells (sq Stc.enc (Qid us k) []) 192 (0,0))) (fun _ _ i _=>us.length-(intOf i).toNat)
 case atStart=>exact ⟨0,by omega,rfl,Chg.refl _ _,by rw [fillS_zero];exact HB1.out⟩
 case round=>
  obtain ⟨k,hk,rfl,hc,hb⟩:=hrel
  have HC:=Vh hc
  by_cases hlt:k<us.length
  ·obtain ⟨u,hu⟩:∃u,us[k]? =some u:=⟨us[k],List.getElem?_eq_getElem hlt⟩
   have HU:=Vh hu
   have HLT:=Vh hlt
   have g1:(k:Int)<(us.length:Int):=by omega
   have g0:(0:Int)≤(k:Int):=by omega
   obtain ⟨b0,o0,hA⟩:=HS.out.addr (by omega)
   subst hA
   obtain ⟨cA,tA,fA,hA,hcell⟩:=HS.out.cell hlt
   have hA1:=HC1.out.keep hA (by simp)
   have HNE:=Vh (show b0≠p from by have:=Xe hA;have:=HP.out;omega)
   have hAr:=hc.keep hA1 (by simpa using HNE.out)
   rw [List.getElem?_map,hu] at hcell
   simp only [Option.map_some] at hcell
   have hset:=Qbu Stc.len {stcZ with u:=u} (fillS_at hlt) [] 0 (.int .u64 u) (by omega) rfl 192 (0,0)
   rw [fillS_succ hu] at hset
   have hz:(sq Stc.enc (Qid us k) [])[k*10]? =some (.int .u64 0):=JM Stc.len (fillS_at hlt) [] 0 (by omega)
   rw [Nat.add_zero] at hset
   have HSET:=Vh hset
   have HB:=Vh hb
   have op:=old hb
   have oA:=old hAr
   clear hset hc hlt hu hA hA1
   go_wp2_with fail
   refine ⟨⟨k+1,by have:=HLT.out;omega,by go_num,HC.out.setCell p _ _ (.inl (by simp)),?_⟩,?_⟩
   ·rw [heap_setCell,if_pos rfl,HB.out,HSET.out]
   ·have:=HLT.out
    simp [intOf]
    omega
  ·have:k=us.length:=by omega
   subst this
   go_wp2_with fail
   go_ret
   rw [fillS_all] at hb
   exact ⟨p,rfl,by have:=HP.out;omega,HC1.out.trans' HC.out (by have:=HP.out;simp;omega),hb⟩
def co0 (id:Int) (room:Nat) (us:List Int):Co:=⟨id,true,[0,0,0,0,0,0,0,0],Qep us,0,room,[],0⟩
theorem co0_ok {id:Int} {room:Nat} {us:List Int} (hi:0≤id∧id<8) (hn:us.length≤4096) (hu:∀u∈us,0≤u∧u<18446744073709551616):CoOk (co0 id room us):=by
 refine ⟨rfl,by show 0≤_;omega,by show (Qep us).length≤_;simp [Qep];omega,?_,by show 0≤16;omega,hi,⟨?_,?_⟩⟩
 ·intro x hx
  simp only [co0,Qep,List.mem_map] at hx
  obtain ⟨u,h,rfl⟩:=hx
  exact hu u h
 ·intro x hx
  simp only [co0,List.mem_cons,Vn,or_false] at hx
  rcases hx with rfl|rfl|rfl|rfl|rfl|rfl|rfl|rfl<;>exact Int.le_refl _
 ·intro e he
  cases he
theorem coc_zero (w:World):(zeroValue 136).run Tryz.prog w=.ok (.agg #[.int .i64 0,.bool false,.int .u64 0,.int .u64 0,.int .u64 0,.int .u64 0,.int .u64 0,.int .u64 0,.int .u64 0,.int .u64 0,.slice none 0 0,.int .i64 0,.pointer none,.int .i64 0]) w:=by kernel_rfl
theorem cnew {w:World} {A:Option Addr} {n cap:Nat} {us:List Int} (id:Int) (room:Nat) (hs:Sl w 1 A n (us.map (Value.int .u64))) (hn:us.length=n) (h5:n≤4096) (hu:∀u∈us,0≤u∧u<18446744073709551616) (hi:0≤id∧id<8) (h1:1≤room) (h2:room≤16):
 Calls Tryz.prog 35 #[.int .i64 id,.int .i64 room,.slice A n cap] w fun e w'=>∃kb pb qb,e=.returned (.tuple #[.pointer (some ⟨kb,0,none⟩),.int .i64 0])∧w.heap.size≤kb∧w.heap.size≤pb∧w.heap.size≤qb∧Chg [] w w'∧Cor w' kb pb qb (co0 id room us):=by
 have hz:=coc_zero
 have hl5:(n:Int)≤4096:=by omega
 have hi1:=hi.1
 have hi2:=hi.2
 have HS:=Vh hs
 have HN:=Vh hn
 have HI:=Vh (co0_ok (room:=room) hi (by omega) hu)
 have HB:=Vh (snew_buf room w h1 h2)
 have H5:=Vh h5
 clear hs hn hi h5 hu h1 h2
 go_enter Tryz.func35,Tryz.ntmps35
 try dsimp only [List.append]
 go_wp2_with fail
 refine HB.out.mono ?_
 rintro e w1 ⟨qb,rfl,hq,hc,hb⟩
 have HQ:=Vh hq
 have HC1:=Vh hc
 have HB1:=Vh hb
 clear hq hc hb
 go_wp2_with fail
 refine (csteps (HS.out.chg HC1.out (fun _ _=>by simp)) HN.out (by have:=H5.out;omega)).mono ?_
 rintro e w2 ⟨pb,rfl,hp,hc,hst⟩
 have HP:=Vh hp
 have HC2:=Vh hc
 have HST:=Vh hst
 clear hp hc hst
 go_wp2_with fail
 go_ret2
 have hs1:=HC1.out.size
 have hs2:=HC2.out.size
 have hq2:=HB1.out.oldq.lt
 have hp2:=(old HST.out).lt
 have hq:=HQ.out
 have hp:=HP.out
 have e0:(co0 id room us).pr.length=n:=by show (Qep us).length=n;simp [Qep,HN.out]
 generalize hC:(#[.int .i64 id,.bool true,.int .u64 0,.int .u64 0,.int .u64 0,.int .u64 0,.int .u64 0,.int .u64 0,.int .u64 0,.int .u64 0,.slice (some ⟨pb,0,none⟩) n n,.int .i64 0,.pointer (some ⟨qb,0,none⟩),.int .i64 0]:Array Value)=C
 have hC':C=coc id true [0,0,0,0,0,0,0,0] pb n 0 qb 0:=by rw [←hC];simp [coc]
 have cA:Chg [] w2 (w2.alloc (.cells C 136)):=(Chg.refl [] w2).alloc _
 refine ⟨w2.heap.size,pb,qb,rfl,by omega,by omega,by omega,(HC1.out.trans HC2.out).trans cA,⟨?_,HST.out.keep cA (by simp),(HB1.out.keep HC2.out (by simp)).keep cA (by simp),by omega,by omega,by omega,HI.out⟩⟩
 rw [e0]
 simp [hC',co0]
end
end Go.Proofs.YtcgjofbkcgedfaaGreatDoor
namespace Go.Proofs.YtcgjofbkcgedfaaGreatDoor
open Go.RowKit
set_option linter.unusedVariables false
set_option maxHeartbeats 1000000
set_option linter.unusedSectionVars false
section
structure Mac where
 S:Mst
 cs:List Co
 rc:List Int
 fa:Nat
def Qfp (M:Mac) (k:Int):Option Co:=if inB k M.cs.length=true then M.cs[k.toNat]? else none
def Mac.sys (M:Mac) (S:Mst):Mac:={M with S:=S}
def Mac.core (M:Mac) (k:Int) (S:Mst) (Q:Co):Mac:={M with S:=S,cs:=M.cs.set k.toNat Q}
def evPush (li:Int):Ev:=⟨5,0,li,0,0⟩
def evFail:Ev:=⟨11,0,0,0,0⟩
def execA (c:Cg) (M:Mac) (k:Int):Mac×List Ev:=
 match Qfp M k with
 |none=>(M,[])
 |some Q=>(M.core k (Qcg c M.S Q).S (Qcg c M.S Q).Q,(Qcg c M.S Q).ev)
def Qgt (c:Cg) (M:Mac) (k:Int):Mac×List Ev:=
 match Qfp M k with
 |none=>(M,[])
 |some Q=>(M.core k (Qae c M.S Q).S (Qae c M.S Q).Q,(Qae c M.S Q).ev)
def hearA (c:Cg) (M:Mac) (k:Int):Mac×List Ev:=
 if (hearM c M.S k).2.e=0 then
  match Qfp M k with
  |none=>(M.sys (hearM c M.S k).1,[])
  |some Q=>(M.core k (hearM c M.S k).1 (Qdc Q (hearM c M.S k).2.m).1,(Qdc Q (hearM c M.S k).2.m).2)
 else (M.sys (hearM c M.S k).1,[])
def pushA (c:Cg) (M:Mac) (li:Int):Mac×List Ev:=(M.sys (pushM c M.S li).1,if (pushM c M.S li).2.e=0 then [evPush li] else [])
def newerB (c:Cg) (S:Mst) (li:Int):Bool:=if inB li c.li=true then (match S.en[li.toNat]? with
 |none=>false
 |some e=>e.di) else false
def dropA (c:Cg) (M:Mac) (li:Int):Mac×List Ev:=(M.sys (dropM c M.S li).1,if (dropM c M.S li).2.e=0∧newerB c M.S li=true then [evPush li] else [])
def Qil (c:Cg) (rc:List Int) (k:Nat):Co:=if k=0 then co0 0 c.st rc else Qez (co0 k c.st [])
def failA (c:Cg) (M:Mac):Mac×List Ev:=(⟨failM c M.S,(List.range c.co).map (Qil c M.rc),M.rc,M.fa+1⟩,[evFail])
def doA (c:Cg) (M:Mac) (kd co li:Int):Mac×List Ev:=
 if kd=1 then execA c M co else if kd=2 then Qgt c M co else if kd=3 then (M.sys (upM c M.S co).1,[]) else if kd=4 then (M.sys (answerM c M.S co).1,[])
 else if kd=5 then hearA c M co else if kd=6 then pushA c M li else if kd=7 then (M.sys (evictM c M.S co li).1,[]) else if kd=8 then dropA c M li
 else if kd=9 then (M.sys (drainM c M.S li).1,[]) else if kd=10 then failA c M else (M,[])
structure MI (c:Cg) (n:Nat) (M:Mac) (cur:Nat→List Int):Prop where
 inv:Inv c n M.S cur
 nn:NN cur
 mn:MN M.S
 len:M.cs.length=c.co
 co:∀(j:Nat) (Q:Co),M.cs[j]? =some Q→Q.id=(j:Int)∧PosC Q∧Q.rm=c.st∧Q.wt=Fl M.S j∧Q.wt≤16∧Q.es.length≤c.st
 rc:M.rc.length≤4096∧∀u∈M.rc,0≤u∧u<18446744073709551616
 fa:M.fa≤n
section
variable {c:Cg} {n:Nat} {S:Mst} {cur:Nat→List Int}
theorem fl_exec (h:Inv c n S cur) (Q:Co) (j:Nat):Fl (Qcg c S Q).S j=Fl S j:=by
 have hl:∀a li wo (Q:Co),Fl (Qf7 c S Q a li wo).S j=Fl S j:=by
  intro a li wo Q
  unfold Qf7
  split
  ·rfl
  ·split<;>exact fl_load h ..
 have hc:∀(Q:Co) (i:Ins) li wo,Fl (Qaq c S Q i li wo).S j=Fl S j:=by
  intro Q i li wo
  have h1:=h.reachM Q.id li
  have h2:=h1.loadM Q.id li wo
  have e1:=fl_reach h Q.id li j
  have e2:=(fl_load h1 Q.id li wo j).trans e1
  unfold Qaq
  split
  ·split
   ·split
    ·exact (fl_store h2 ..).trans e2
    ·exact e2
   ·exact e1
  ·rfl
 have hp:∀(Q:Co) kd e,(putC S Q kd e).S=S:=by intro Q kd e;unfold putC;split<;>rfl
 have ha:∀(Q:Co) (i:Ins),Fl (Xk c S Q i).S j=Fl S j:=by
  intro Q i
  unfold Xk
  split
  ·split
   ·exact hl ..
   ·split
    ·rw [hp]
    ·split
     ·exact hc ..
     ·rw [hp]
  ·rfl
 have hi:∀(Q:Co) (i:Ins),Fl (insC c S Q i).S j=Fl S j:=by
  intro Q i
  unfold insC
  split
  ·rfl
  split
  ·rfl
  split
  ·rfl
  split
  ·rfl
  split
  ·rfl
  split
  ·rfl
  split
  ·split<;>rfl
  ·exact ha ..
 unfold Qcg
 split
 ·split
  ·rfl
  ·split
   ·exact hi ..
   ·rfl
 ·rfl
theorem mn_exec (h:Inv c n S cur) (hM:MN S) (Q:Co):MN (Qcg c S Q).S:=by
 have hl:∀a li wo (Q:Co),MN (Qf7 c S Q a li wo).S:=by
  intro a li wo Q
  unfold Qf7
  split
  ·exact hM
  ·split<;>exact mn_load h hM ..
 have hc:∀(Q:Co) (i:Ins) li wo,MN (Qaq c S Q i li wo).S:=by
  intro Q i li wo
  have h1:=h.reachM Q.id li
  have h2:=h1.loadM Q.id li wo
  have e1:=mn_reach h hM Q.id li
  have e2:=mn_load h1 e1 Q.id li wo
  unfold Qaq
  split
  ·split
   ·split
    ·exact mn_store h2 e2 ..
    ·exact e2
   ·exact e1
  ·exact hM
 have hp:∀(Q:Co) kd e,(putC S Q kd e).S=S:=by intro Q kd e;unfold putC;split<;>rfl
 have ha:∀(Q:Co) (i:Ins),MN (Xk c S Q i).S:=by
  intro Q i
  unfold Xk
  split
  ·split
   ·exact hl ..
   ·split
    ·rw [hp];exact hM
    ·split
     ·exact hc ..
     ·rw [hp];exact hM
  ·exact hM
 have hi:∀(Q:Co) (i:Ins),MN (insC c S Q i).S:=by
  intro Q i
  unfold insC
  split
  ·exact hM
  split
  ·exact hM
  split
  ·exact hM
  split
  ·exact hM
  split
  ·exact hM
  split
  ·exact hM
  split
  ·split<;>exact hM
  ·exact ha ..
 unfold Qcg
 split
 ·split
  ·exact hM
  ·split
   ·exact hi ..
   ·exact hM
 ·exact hM
theorem mn_drainC (h:Inv c n S cur) (hM:MN S) (Q:Co):MN (Qae c S Q).S:=by
 unfold Qae
 split
 ·exact hM
 ·split
  ·split<;>exact mn_store h hM ..
  ·split
   ·split<;>exact hM
   ·split
    ·exact hM
    ·split<;>exact mn_flush h hM ..
theorem fl_drainC (h:Inv c n S cur) (Q:Co) {k:Nat} (hk:Q.id=(k:Int)) (j:Nat):Fl (Qae c S Q).S j+Q.wt=Fl S j+(if k=j then (Qae c S Q).Q.wt else Q.wt)∧Q.wt≤(Qae c S Q).Q.wt∧((Qae c S Q).Q.wt≤Q.wt∨(Qae c S Q).Q.wt≤16):=by
 have hsame:∀x:Nat,x=Q.wt→(if k=j then x else Q.wt)=Q.wt:=by intro x hx;rw [hx];split<;>rfl
 unfold Qae
 split
 ·exact ⟨by rw [hsame _ rfl],Nat.le_refl _,.inl (Nat.le_refl _)⟩
 ·rename_i e rest _
  split
  ·have:=fl_store h Q.id e.li e.wo e.va j
   split
   ·exact ⟨by rw [hsame _ rfl];dsimp only;rw [this],Nat.le_refl _,.inl (Nat.le_refl _)⟩
   ·exact ⟨by rw [hsame _ rfl];dsimp only;rw [this],Nat.le_refl _,.inl (Nat.le_refl _)⟩
  ·split
   ·split
    ·exact ⟨by rw [hsame _ rfl],Nat.le_refl _,.inl (Nat.le_refl _)⟩
    ·exact ⟨by rw [hsame _ rfl],Nat.le_refl _,.inl (Nat.le_refl _)⟩
   ·split
    ·exact ⟨by rw [hsame _ rfl],Nat.le_refl _,.inl (Nat.le_refl _)⟩
    ·rename_i h16
     have:=fl_flush h k e.li (JK e.kd) j
     rw [←hk] at this
     split
     ·rename_i h0
      refine ⟨?_,by dsimp only;omega,.inr (by dsimp only;omega)⟩
      dsimp only
      rw [this]
      by_cases hkj:k=j
      ·rw [if_pos hkj,if_pos ⟨h0,hkj⟩];omega
      ·rw [if_neg hkj,if_neg (fun e=>hkj e.2)]
       omega
     ·rename_i h0
      refine ⟨?_,Nat.le_refl _,.inl (Nat.le_refl _)⟩
      rw [hsame _ rfl]
      dsimp only
      rw [this,if_neg (fun e=>h0 e.1)]
      omega
end
section
variable {c:Cg} {n:Nat} {M:Mac} {cur:Nat→List Int} (h:MI c n M cur)
include h
theorem MI.roomy:Roomy c M.S:=by
 refine .ofFl h.inv fun j hj=>?_
 obtain ⟨Q,hQ⟩:∃Q,M.cs[j]? =some Q:=⟨M.cs[j]'(by rw [h.len];exact hj),List.getElem?_eq_getElem _⟩
 obtain ⟨_,_,_,h4,h5,_⟩:=h.co j Q hQ
 omega
theorem MI.fl {j:Nat} (hj:j<c.co):Fl M.S j≤16:=by
 obtain ⟨Q,hQ⟩:∃Q,M.cs[j]? =some Q:=⟨M.cs[j]'(by rw [h.len];exact hj),List.getElem?_eq_getElem _⟩
 obtain ⟨_,_,_,h4,h5,_⟩:=h.co j Q hQ
 omega
theorem MI.roomyLoad (k li wo:Int):Roomy c (loadM c M.S k li wo).1:=by
 refine .ofFl (h.inv.loadM k li wo) fun j hj=>?_
 rw [fl_load h.inv]
 have:=h.fl hj
 omega
theorem MI.mono {m:Nat} (hm:n≤m):MI c m M cur:=⟨h.inv.mono hm,h.nn,h.mn,h.len,h.co,h.rc,Nat.le_trans h.fa hm⟩
theorem MI.sysTo {S':Mst} {m:Nat} (hI:Inv c m S' cur) (hmn:MN S') (hF:∀j,j<c.co→Fl S' j=Fl M.S j) (hm:n≤m):MI c m (M.sys S') cur:=by
 refine ⟨hI,h.nn,hmn,h.len,fun j Q hQ=>?_,h.rc,Nat.le_trans h.fa hm⟩
 obtain ⟨h1,h2,h3,h4,h5,h6⟩:=h.co j Q hQ
 have hj:j<c.co:=by rw [←h.len];exact (Vg hQ).1
 exact ⟨h1,h2,h3,by rw [h4];exact (hF j hj).symm,h5,h6⟩
theorem MI.coreTo {cur':Nat→List Int} {S':Mst} {Q Q':Co} {k m:Nat} (hk:M.cs[k]? =some Q) (hI:Inv c m S' cur') (hN:NN cur') (hmn:MN S') (hid:Q'.id=Q.id) (hp:PosC Q') (hr:Q'.rm=Q.rm) (h16:Q'.wt≤16) (hes:Q'.es.length≤c.st)
 (hF:∀j,j<c.co→Fl S' j+Q.wt=Fl M.S j+(if k=j then Q'.wt else Q.wt)) (hm:n≤m):MI c m (M.core (k:Int) S' Q') cur':=by
 have hkl:=(Vg hk).1
 obtain ⟨k1,k2,k3,k4,k5,k6⟩:=h.co k Q hk
 refine ⟨hI,hN,hmn,by show (M.cs.set _ _).length=_;rw [List.length_set];exact h.len,fun j q hq=>?_,h.rc,Nat.le_trans h.fa hm⟩
 have hq':(M.cs.set k Q')[j]? =some q:=by simpa [Mac.core] using hq
 have hj:j<c.co:=by rw [←h.len];have:=(Vg hq').1;simpa using this
 have hf:=hF j hj
 rw [List.getElem?_set] at hq'
 split at hq'
 ·rename_i e
  subst e
  cases hq'
  rw [if_pos rfl] at hf
  exact ⟨by rw [hid];exact k1,hp,by rw [hr];exact k3,by show _=Fl S' _;omega,h16,hes⟩
 ·rename_i e
  rw [if_neg e] at hf
  obtain ⟨h1,h2,h3,h4,h5,h6⟩:=h.co j q hq'
  exact ⟨h1,h2,h3,by show _=Fl S' _;omega,h5,h6⟩
theorem MI.at {k:Int} {Q:Co} (hk:Qfp M k=some Q):∃j:Nat,k=(j:Int)∧j<c.co∧M.cs[j]? =some Q∧Q.id=(j:Int):=by
 unfold Qfp at hk
 split at hk
 ·rename_i hb
  have:=X3.1 hb
  refine ⟨k.toNat,by omega,by rw [←h.len];omega,hk,?_⟩
  exact (h.co _ _ hk).1
 ·cases hk
theorem MI.exec (k:Int):∃cur',MI c (n+3) (execA c M k).1 cur':=by
 unfold execA
 cases hc:Qfp M k with
 |none=>exact ⟨cur,h.mono (by omega)⟩
 |some Q=>
  obtain ⟨j,rfl,hj,hQ,hid⟩:=h.at hc
  obtain ⟨_,k2,k3,k4,k5,k6⟩:=h.co j Q hQ
  obtain ⟨cur',w⟩:=went_exec h.inv h.nn k2
  have hes:=w.es
  refine ⟨cur',h.coreTo hQ (w.inv.mono (by omega)) w.nn (mn_exec h.inv h.mn Q) w.id w.pos w.rm (by rw [w.wt];exact k5) (by omega) (fun i _=>?_) (by omega)⟩
  rw [fl_exec h.inv,w.wt]
  split<;>rfl
theorem MI.drain (k:Int):∃cur',MI c (n+3) (Qgt c M k).1 cur':=by
 unfold Qgt
 cases hc:Qfp M k with
 |none=>exact ⟨cur,h.mono (by omega)⟩
 |some Q=>
  obtain ⟨j,rfl,hj,hQ,hid⟩:=h.at hc
  obtain ⟨_,k2,k3,k4,k5,k6⟩:=h.co j Q hQ
  obtain ⟨cur',w⟩:=left_drain h.inv h.nn k2
  have hes:=w.es
  have hf:=fl_drainC h.inv Q hid
  refine ⟨cur',h.coreTo hQ (w.inv.mono (by omega)) w.nn (mn_drainC h.inv h.mn Q) w.id w.pos w.rm (by have:=(hf 0).2.2;omega) (by omega) (fun i _=>(hf i).1) (by omega)⟩
theorem MI.hear (k:Int):MI c (n+3) (hearA c M k).1 cur:=by
 have hI:=(h.inv.hearM k).1
 unfold hearA
 split
 ·rename_i h0
  cases hc:Qfp M k with
  |none=>
   refine h.sysTo (hI.mono (by omega)) (mn_hear h.inv h.mn _) (fun j hj=>?_) (by omega)
   have hno:Xp c M.S k=none:=by
    unfold Qfp at hc
    split at hc
    ·rename_i hb
     have:=X3.1 hb
     rw [List.getElem?_eq_getElem (by omega)] at hc
     cases hc
    ·rename_i hb
     unfold Xp
     rw [if_neg]
     rw [h.len] at hb
     exact hb
   unfold hearM
   rw [hno]
  |some Q=>
   obtain ⟨j,rfl,hj,hQ,hid⟩:=h.at hc
   obtain ⟨_,k2,k3,k4,k5,k6⟩:=h.co j Q hQ
   have hq:(Qdc Q (hearM c M.S (j:Int)).2.m).1.id=Q.id∧PosC (Qdc Q (hearM c M.S (j:Int)).2.m).1∧(Qdc Q (hearM c M.S (j:Int)).2.m).1.rm=Q.rm∧(Qdc Q (hearM c M.S (j:Int)).2.m).1.es=Q.es∧
    (Qdc Q (hearM c M.S (j:Int)).2.m).1.wt+(if (hearM c M.S (j:Int)).2.m.kd=14 then 1 else 0)=Q.wt+(if (hearM c M.S (j:Int)).2.m.kd=14∧Q.wt=0 then 1 else 0):=by
    unfold Qdc
    split
    ·rename_i h1
     refine ⟨rfl,k2,rfl,rfl,?_⟩
     dsimp only
     rcases h1 with h1|h1
     ·simp [h1]
     ·simp [h1]
    ·rename_i h1
     simp only [not_or,Classical.not_not] at h1
     refine ⟨rfl,⟨k2.rg,k2.es⟩,rfl,rfl,?_⟩
     dsimp only
     simp [h1.1,h1.2]
     omega
   obtain ⟨q1,q2,q3,q4,q5⟩:=hq
   have hfl:=fun i=>fl_hear h.inv j i
   have hpos:(hearM c M.S (j:Int)).2.m.kd=14→1≤Q.wt:=by
    intro h14
    have:=hfl j
    rw [if_pos ⟨h0,h14,rfl⟩] at this
    omega
   have h5:(Qdc Q (hearM c M.S (j:Int)).2.m).1.wt+(if (hearM c M.S (j:Int)).2.m.kd=14 then 1 else 0)=Q.wt:=by
    rw [q5,if_neg (fun e=>by have:=hpos e.1;omega)];rfl
   refine h.coreTo hQ (hI.mono (by omega)) h.nn (mn_hear h.inv h.mn _) q1 q2 q3 (by omega) (by rw [q4];exact k6) (fun i hi=>?_) (by omega)
   have:=hfl i
   by_cases hji:j=i
   ·subst hji
    rw [if_pos rfl]
    by_cases h14:(hearM c M.S (j:Int)).2.m.kd=14
    ·rw [if_pos ⟨h0,h14,rfl⟩] at this
     rw [if_pos h14] at h5
     omega
    ·rw [if_neg (fun e=>h14 e.2.1)] at this
     rw [if_neg h14] at h5
     omega
   ·rw [if_neg hji]
    rw [if_neg (fun e=>hji e.2.2)] at this
    omega
 ·rename_i h0
  refine h.sysTo (hI.mono (by omega)) (mn_hear h.inv h.mn _) (fun j hj=>?_) (by omega)
  by_cases hk:inB k c.co=true
  ·have:=X3.1 hk
   obtain ⟨k',rfl⟩:∃k':Nat,k=(k':Int):=⟨k.toNat,by omega⟩
   have:=fl_hear h.inv k' j
   rw [if_neg (fun e=>h0 e.1)] at this
   omega
  ·unfold hearM Xp
   rw [if_neg hk]
theorem coreF_ok (hc:c.Ok) {rc:List Int} (hr:rc.length≤4096∧∀u∈rc,0≤u∧u<18446744073709551616) (k:Nat):(Qil c rc k).id=(k:Int)∧PosC (Qil c rc k)∧(Qil c rc k).rm=c.st∧(Qil c rc k).wt=0∧(Qil c rc k).es=[]:=by
 have hp:∀id us,PosC (co0 id c.st us):=fun id us=>⟨by intro x hx;simp [co0] at hx;omega,by intro e he;simp [co0] at he⟩
 unfold Qil
 split
 ·rename_i e;subst e;exact ⟨rfl,hp _ _,rfl,rfl,rfl⟩
 ·exact ⟨rfl,⟨(hp k []).rg,(hp k []).es⟩,rfl,rfl,rfl⟩
theorem MI.fail:∃cur',MI c (n+3) (failA c M).1 cur':=by
 refine ⟨_,⟨h.inv.failM.mono (by omega),?_,?_,by simp [failA],fun j Q hQ=>?_,h.rc,by have:=h.fa;show _+1≤_;omega⟩⟩
 ·intro i x hx
  exact (mn_fail h.inv h.mn).1 x (mem_ln hx)
 ·exact mn_fail h.inv h.mn
 ·have hQ':((List.range c.co).map (Qil c M.rc))[j]? =some Q:=hQ
  rw [List.getElem?_map] at hQ'
  have hj:j<c.co:=by
   have:=(Vg hQ).1
   simpa [failA] using this
  rw [List.getElem?_range hj] at hQ'
  simp only [Option.map_some,Option.some.injEq] at hQ'
  subst hQ'
  obtain ⟨c1,c2,c3,c4,c5⟩:=coreF_ok h h.inv.ok h.rc j
  refine ⟨c1,c2,c3,?_,by omega,by rw [c5];simp⟩
  rw [c4]
  exact (fl_fresh c _ _ j).symm
theorem MI.step (kd co li:Int):∃cur',MI c (n+3) (doA c M kd co li).1 cur':=by
 unfold doA
 split
 ·exact h.exec co
 split
 ·exact h.drain co
 split
 ·exact ⟨cur,h.sysTo ((h.inv.upM co).1.mono (by omega)) (mn_up h.inv h.nn h.mn co) (fun j hj=>fl_up h.inv co j hj) (by omega)⟩
 split
 ·exact ⟨cur,h.sysTo ((h.inv.answerM co).1.mono (by omega)) (mn_answer h.inv h.nn h.mn co) (fun j hj=>fl_answer h.inv co j hj) (by omega)⟩
 split
 ·exact ⟨cur,h.hear co⟩
 split
 ·exact ⟨cur,h.sysTo ((h.inv.pushM li).mono (by omega)) (mn_push h.inv h.mn li) (fun j hj=>fl_push h.inv li j hj) (by omega)⟩
 split
 ·exact ⟨cur,h.sysTo ((h.inv.evictM co li).mono (by omega)) (mn_evict h.inv h.mn co li) (fun j hj=>fl_evict h.inv co li j) (by omega)⟩
 split
 ·exact ⟨cur,h.sysTo ((h.inv.dropM li).mono (by omega)) (mn_drop h.inv h.mn li) (fun j hj=>fl_drop h.inv li j) (by omega)⟩
 split
 ·exact ⟨cur,h.sysTo ((h.inv.drainM li).mono (by omega)) (mn_drain h.inv h.mn li) (fun j hj=>fl_drain h.inv li j) (by omega)⟩
 split
 ·exact h.fail
 ·exact ⟨cur,h.mono (by omega)⟩
end
end
end Go.Proofs.YtcgjofbkcgedfaaGreatDoor
