/- Texts of the walk, one behind the other: Coh Qtl Cox Coy Coz. No condition. -/
import Derived.Test.YtcjoinhngdfdmaaGreatDoorCLaa
import Derived.Test.YtcjoinhngdfdmaaGreatDoorCLap
import Derived.Deep.Quiet
import Derived.StillTail
namespace Go.Proofs.YtcjoinhngdfdmaaGreatDoor
open Go.RowKit
set_option linter.unusedVariables false
set_option maxHeartbeats 1000000
set_option maxRecDepth 100000
attribute [local go_sem ↓] append_appS copy_copS clear_clrS make_mkS cell_row frozen_row heap_drew heap_drewN heap_alloc heap_past heap_setCell heap_putRow loadSe storeSe loadIns storeIns loadEv storeEv loadRg storeRg sec_kd sec_li sec_wo sec_va sec_sn insc_op insc_a insc_b insc_c insc_im evc_kd evc_co evc_li evc_wo evc_va coc_id coc_ru coc_reg coc_pr coc_pc coc_qb coc_wt
attribute [local go_sem] rowCell_some rowFrozen_some rowHas_some rowIn_some rowPart_full rowPut_full rowSet_some run_loadS run_storeS run_appS run_copS run_clrS run_mkS loadW_at storeW_at fit_all fit_le one_int one_bool one_pointer one_slice allOne_list putRow_new ne_size1 ne_size2 wideSe wideIns wideEv wideRg sec_size sec_one sec_lit sec_z sec_ne sec_set0 sec_set1 sec_set2 sec_set3 seZ_kd seZ_li seZ_wo seZ_va seZ_sn insc_size insc_one insc_ne insc_lit insc_z evc_size evc_one evc_ne evc_lit evc_z evc_set0 evc_set1 evc_set2 evc_set3 evc_set4 evZ_kd evZ_co evZ_li evZ_wo evZ_va fold_evc coc_setRu coc_size coc_setPc coc_setWt coc_setReg coc_regs vs_size vs_one
attribute [local simp ↓] heap_drew heap_drewN heap_alloc heap_past heap_setCell heap_putRow
attribute [local simp] rowCell_some rowFrozen_some rowHas_some rowIn_some rowPart_full rowPut_full rowSet_some fit_all putRow_new ne_size1 ne_size2 sec_size insc_size evc_size coc_size coc_setRu coc_setPc coc_setWt coc_setReg vs_size fit_le
attribute [local go_sem ↓] heap_drewN
section
theorem Cor.read {w w':World} {kb pb qb:Nat} {Q:Co} {u:Int} {r:Bool} (h:Cor w kb pb qb Q) (hx:Q.pr[Q.pc]? =some (u,r)) (hc:Chg [pb] w w') (hs:Sts w' pb ((Q.pr.set Q.pc (u,true)).map stp)):Cor w' kb pb qb (readC Q u):=by
 have hn:=(List.getElem?_eq_some_iff.1 hx).1
 have hl:(Q.pr.set Q.pc (u,true)).length=Q.pr.length:=List.length_set
 refine ⟨?_,hs,h.buf.keep hc (by simpa using h.pq.symm),h.kp,h.kq,h.pq,⟨h.ok.h8,h.ok.pc,by show (Q.pr.set _ _).length≤_;rw [hl];exact h.ok.np,?_,h.ok.wt,h.ok.id,h.ok.pos.read u⟩⟩
 ·show w'.heap[kb]? =some (.cells (coc Q.id Q.ru Q.rg pb (Q.pr.set Q.pc (u,true)).length Q.pc qb Q.wt) _ _)
  rw [hl]
  exact hc.keep h.own (by simpa using h.kp)
 ·intro x hm
  rcases List.mem_or_eq_of_mem_set hm with h1|rfl
  ·exact h.ok.pr x h1
  ·exact h.ok.pr (u,r) (List.mem_of_getElem? hx)
section
variable {w:World} {kb pb qb:Nat} {Q:Co} (hC:Cor w kb pb qb Q)
include hC
theorem dhere_none (hx:Q.pr.length≤Q.pc):Calls Tryz.prog 41 #[.pointer (some ⟨kb,0,none⟩)] w fun e w'=>e=.returned (.tuple #[.agg (insc insZ),.bool false])∧Chg [] w w':=by
 have h8:=hC.ok.h8
 have hb:=hC.own
 have ob:=old hb
 have hz:(w.alloc (.cells (insc insZ) 33)).heap[w.heap.size]? =some (.cells (insc insZ) 33 (0,0)):=by simp
 have HC1:=Lib.hid ((Chg.refl [] w).alloc (.cells (insc insZ) 33))
 have hb1:=HC1.out.keep hb (by simp)
 have hlt:(Q.pr.length:Int)≤(Q.pc:Int):=by omega
 clear hC hx
 generalize Q.pr.length=np at *
 generalize Q.pc=pc at *
 go_enter Tryz.func41,Tryz.ntmps41
 go_wp2_with fail
 go_quiet (fail)
 go_wp2_with fail
 refine bodyPost_ret (v:=.tuple #[.agg (insc insZ),.bool false]) (results_ins2 (by rfl) _ _ w.heap.size insZ (0,0) (by rfl) (by rw [heap_putRow _ _ _ _ _ (by simp [rowHas,Fit,insc_size]),if_pos rfl];simp) _ (by rfl)) (by rfl) ⟨rfl,(HC1.out.drewN _).putRow _ _ _ (.inr (Nat.le_refl _))⟩
theorem dhere {u:Int} {r:Bool} (hx:Q.pr[Q.pc]? =some (u,r)):Calls Tryz.prog 41 #[.pointer (some ⟨kb,0,none⟩)] w fun e w'=>e=.returned (.tuple #[.agg (insc (decI u)),.bool (decB u)])∧Cor w' kb pb qb (readC Q u)∧Chg [pb] w w':=by
 have hn:=(List.getElem?_eq_some_iff.1 hx).1
 have h8:=hC.ok.h8
 have hb:=hC.own
 have ob:=old hb
 have hu:=hC.ok.pr _ (List.mem_of_getElem? hx)
 have hz:(w.alloc (.cells (insc insZ) 33)).heap[w.heap.size]? =some (.cells (insc insZ) 33 (0,0)):=by simp
 have HC1:=Lib.hid ((Chg.refl [] w).alloc (.cells (insc insZ) 33))
 have HC:=Lib.hid (hC.keep0 HC1.out)
 have hb1:=HC.out.own
 have HX:=Lib.hid hx
 have HI:=Lib.hid (fun (w':World) (h:Cor w' kb pb qb Q)=>oins h.steps hx hu.1 hu.2)
 have HR:=Lib.hid (fun (w' w'':World) (h:Cor w' kb pb qb Q) (hc:Chg [pb] w' w'') hs=>h.read hx hc hs)
 have hlt:(Q.pc:Int)<(Q.pr.length:Int):=by omega
 have hlt2:decide ((Q.pr.length:Int)≤(Q.pc:Int))=false:=by simp;omega
 have h0:(0:Int)≤(Q.pc:Int):=by omega
 have HPP:=Lib.hid (show w.heap.size≠kb∧w.heap.size≠pb∧w.heap.size≠qb from by have:=hC.oldk.lt;have:=hC.oldp.lt;have:=hC.oldq.lt;omega)
 clear hC hx hn hu
 generalize hnp:Q.pr.length=np at *
 generalize hpc:Q.pc=pc at *
 generalize hw1:w.alloc (.cells (insc insZ) 33)=w1 at *
 generalize hzz:w.heap.size=p at *
 go_enter Tryz.func41,Tryz.ntmps41
 go_wp2_with fail
 go_quiet (fail)
 go_wp2_with fail
 have n1:¬p=kb:=HPP.out.1
 have n2:¬kb=p:=fun e=>HPP.out.1 e.symm
 have HQ:=Lib.hid ((Chg.refl [] w1).drewN nq)
 have HC2:=Lib.hid (HC.out.keep0 HQ.out)
 have hz2:=HQ.out.keep hz (by simp)
 have hb2:=HQ.out.keep hb1 (by simp)
 have HG2:=Lib.hid (HC1.out.trans HQ.out)
 clear hz hb1 HQ
 generalize w1.drewN nq=w2 at *
 have hb2d:=((Chg.refl [] w2).drew).keep hb2 (by simp)
 have hz2d:=((Chg.refl [] w2).drew).keep hz2 (by simp)
 go_region_held3 (fun w'=>w'.heap[kb]? =some (.cells (coc Q.id Q.ru Q.rg pb np pc qb Q.wt) 98 (0,0)))
  (first |with_reducible exact hb2d|with_reducible exact hb4|(rw [heap_putRow _ _ _ _ _ (by simp [hz4,rowHas,Fit,insc_size]),if_neg n2];with_reducible exact hb4))
  (first |(go_at_call 78;refine (HI.out _ (HC2.out.keep0 ((Chg.refl [] w2).drew))).mono ?_;rintro e w4 ⟨rfl,c4,s4⟩;have hz4:=c4.keep hz2d (by simpa using HPP.out.2.1);have hb4:=c4.keep hb2d (by simpa using HC2.out.kp)))
 all_goals
  rename World=>w4
  go_wp2_with fail
  have cp:Chg [p] w4 (putRow w4 p 0 (insc (decI u))):=(Chg.refl [p] w4).putRow p 0 _ (.inl (by simp))
  refine bodyPost_ret (v:=.tuple #[.agg (insc (decI u)),.bool (decB u)]) (results_ins2 (by rfl) _ _ p (decI u) (0,0) (by rfl) (by rw [heap_putRow _ _ _ _ _ (by rw [hz4];simp [rowHas,Fit,insc_size]),if_pos rfl,hz4];exact rowPut_full _ _ _ _ (by rw [insc_size,insc_size])) _ (by rfl)) (by rfl) ⟨rfl,(HR.out _ _ (HC2.out.keep0 ((Chg.refl [] w2).drew)) c4 s4).keep cp (by simpa using n2) (by simpa using fun e=>HPP.out.2.1 e.symm) (by simpa using fun e=>HPP.out.2.2 e.symm),(((HG2.out.drew.mono (by simp)).trans c4).putRow p 0 _ (.inr (by omega)))⟩
end
end
end Go.Proofs.YtcjoinhngdfdmaaGreatDoor
namespace Go.Proofs.YtcjoinhngdfdmaaGreatDoor
open Go.RowKit
set_option linter.unusedVariables false
set_option maxHeartbeats 1000000
section
section
variable {P:Program} {md:Region.Mode} {ops:Array Oper} {C:World→Prop}
def waysQ (P:Program) (md:Region.Mode) (ops:Array Oper) (C:World→Prop) (n:Nat) (L:Array Bool→Act→Prop):Nat→Array Bool→Act→Prop
 |0,ls,a=>L ls a
 |f+1,ls,a=>Region.ready md ops ls≠[]∧∀i∈Region.ready md ops ls,i<n∧qOp P ops C i (waysQ P md ops C n L f (ls.setIfInBounds i true)) a
theorem waysQ.first {n i:Nat} {oi:Oper} {v:Value} {L:Array Bool→Act→Prop} (hi:ops[i]? =some oi) (hsel:∀(j:Nat) (o:Oper) cs b,ops[j]? =some o→o.op≠.select cs b)
 (hs:Region.sinkB md ops n=true) (hc:Region.chainB md ops n=true) (hn:n<ops.size) (hin:i<n) (hend:∀ls a,L ls a→∀j∈Region.ready md ops ls,n≤j):
 ∀(f:Nat) (ls:Array Bool) (a:Act),HeadInv md ops n ls→(∀j oj,ops[j]? =some oj→j≠i→ls.getD j true=false→(∀e∈oj.after,Region.binds md e=true→e.on≠i)→oi.apart ops oj=true)→
  i∈Region.ready md ops ls→YieldsIn P ops C oi v a→waysQ P md ops C n L f (ls.setIfInBounds i true) (a.put oi.dst v)→waysQ P md ops C n L (f+1) ls a:=by
 intro f
 induction f with
 |zero=>
  intro ls a inv _ hr hy H
  refine ⟨fun e=>(by rw [e] at hr;cases hr),fun j hj=>?_⟩
  have hjn:j<n:=Nat.lt_of_not_le fun e=>tail_waits hs hc hn inv _ i rfl hin (mem_ready.1 hr).1 j e hj
  refine ⟨hjn,?_⟩
  by_cases hji:j=i
  ·rw [hji];exact hy.qOp hi H
  ·exact absurd hjn (Nat.not_lt_of_le (hend _ _ H j (ready_mono hj hji)))
 |succ f ih=>
  intro ls a inv hfree hr hy H
  refine ⟨fun e=>(by rw [e] at hr;cases hr),fun j hj=>?_⟩
  have hjn:j<n:=Nat.lt_of_not_le fun e=>tail_waits hs hc hn inv _ i rfl hin (mem_ready.1 hr).1 j e hj
  refine ⟨hjn,?_⟩
  by_cases hji:j=i
  ·rw [hji];exact hy.qOp hi H
  ·obtain ⟨hju,oj,hoj,hall⟩:=mem_ready.1 hj
   have hno:∀e∈oj.after,Region.binds md e=true→e.on≠i:=by
    intro e he hb heq
    have h1:=hall e he hb
    rw [heq,getD_both (mem_ready.1 hr).1] at h1
    cases h1
   refine qOp_mono (fun a' h3=>ih _ a' (inv.set hj hjn) ?_ (ready_mono hr (Ne.symm hji)) h3.1 ?_) (qOp_put hoj (hfree j oj hoj hji hju hno) (fun cs b=>hsel i oi cs b hi) (fun cs b=>hsel j oj cs b hoj) hy (H.2 j (ready_mono hj hji)).2)
   ·intro k ok hk hki hu hno2
    refine hfree k ok hk hki ?_ hno2
    by_cases hjk:j=k
    ·rw [←hjk];exact hju
    ·rwa [getD_set_ne true hjk] at hu
   ·rw [Array.setIfInBounds_comm _ _ hji]
    exact h3.2
end
end
section
set_option maxRecDepth 100000
attribute [local go_sem ↓] append_appS copy_copS clear_clrS make_mkS cell_row frozen_row heap_drew heap_drewN heap_alloc heap_past heap_setCell heap_putRow loadSe storeSe loadIns storeIns loadEv storeEv loadRg storeRg sec_kd sec_li sec_wo sec_va sec_sn insc_op insc_a insc_b insc_c insc_im evc_kd evc_co evc_li evc_wo evc_va coc_id coc_ru coc_reg coc_pr coc_pc coc_qb coc_wt
attribute [local go_sem] rowCell_some rowFrozen_some rowHas_some rowIn_some rowPart_full rowPut_full rowSet_some run_loadS run_storeS run_appS run_copS run_clrS run_mkS loadW_at storeW_at fit_all fit_le one_int one_bool one_pointer one_slice allOne_list putRow_new ne_size1 ne_size2 wideSe wideIns wideEv wideRg sec_size sec_one sec_lit sec_z sec_ne sec_set0 sec_set1 sec_set2 sec_set3 seZ_kd seZ_li seZ_wo seZ_va seZ_sn insc_size insc_one insc_ne insc_lit insc_z evc_size evc_one evc_ne evc_lit evc_z evc_set0 evc_set1 evc_set2 evc_set3 evc_set4 evZ_kd evZ_co evZ_li evZ_wo evZ_va fold_evc coc_setRu coc_size coc_setPc coc_setWt coc_setReg coc_regs vs_size vs_one
attribute [local simp ↓] heap_drew heap_drewN heap_alloc heap_past heap_setCell heap_putRow
attribute [local simp] rowCell_some rowFrozen_some rowHas_some rowIn_some rowPart_full rowPut_full rowSet_some fit_all putRow_new ne_size1 ne_size2 sec_size insc_size evc_size coc_size coc_setRu coc_setPc coc_setWt coc_setReg vs_size fit_le
attribute [local go_sem ↓] heap_drewN
theorem CS.setReg {W w:World} {c:Cg} {sy:Nat} {F:List Nat} {S:Mst} {kb pb qb:Nat} {Q:Co} (h:CS W w c sy F S kb pb qb Q) {a:Nat} (ha:a<8) {v:Int} (hv:0≤v):CS W (w.setCell ⟨kb,2+a,none⟩ (.int .u64 v)) c sy F S kb pb qb (setR Q a v):=
 h.core ((Chg.refl [kb,pb,qb] w).setCell kb _ _ (.inl (by simp))) (h.co.setReg ha hv)
section
variable {W w:World} {c:Cg} {sy n:Nat} {F:List Nat} {S:Mst} {cur:Nat→List Int} {kb pb qb:Nat} {Q:Co} (h:CS W w c sy F S kb pb qb Q) (hI:Inv c n S cur) (hN:NN cur) (hn:n+1≤1000000000) (hR:Roomy c S) (hR2:∀li wo,Roomy c (loadM c S Q.id li wo).1) (hT:Tab W) {u:Int} {r:Bool} (hru:Q.ru=true) (hx:Q.pr[Q.pc]? =some (u,r))
include h hI hN hn hR hR2 hT hru hx
theorem xexec_bad (hd:decB u=false):Calls Tryz.prog 17 #[.pointer (some ⟨kb,0,none⟩),.pointer (some ⟨sy,0,none⟩)] w (CSTo W w c sy F kb pb qb S (stopC (readC Q u)) [evC Q 10 0 0 0]):=by
 have _:=hI
 have _:=hN
 have _:=hn
 have _:=hR
 have _:=hR2
 have _:=hT
 have DH:=dhere h.co hx
 rw [hd] at DH
 have HD:=Lib.hid DH
 have RU:=cruns h.co.own
 rw [hru] at RU
 have HRU:=Lib.hid RU
 have H1:=Lib.hid (fun (w1:World) (hc:Chg [pb] w w1) (hC:Cor w1 kb pb qb (readC Q u))=>h.core (hc.mono (by simp)) hC)
 have ED:=Lib.hid (fun (w':World) (h':CS W w' c sy F S kb pb qb (readC Q u)) (kd:Int)=>(dend h'.co h'.old kd).mono fun e w' hd=>h'.ofCo hd)
 clear h hI hN hn hR hR2 hT hru hx hd DH RU
 go_enter Tryz.func17,Tryz.ntmps17
 try dsimp only [List.append]
 go_wp2_with (first |(go_at_call 15;refine HRU.out.mono ?_;rintro e w' ⟨rfl,rfl⟩)|(go_at_call 41;refine HD.out.mono ?_;rintro e w1 ⟨rfl,hC1,hc1⟩;have H1:=Lib.hid (H1.out w1 hc1 hC1);have C1:=Lib.hid hc1;clear hC1 hc1))
 have C2:Chg [] w1 (w1.alloc (.cells (insc (decI u)) 33)):=(Chg.refl [] w1).alloc _
 refine (ED.out _ (H1.out.keep0 C2) 10).mono ?_
 rintro e w4 ⟨v,F',rfl,hd⟩
 go_wp2_with fail
 go_ret
 exact CSTo.from (chg_core ((C1.out.mono (by simp)).trans (C2.mono (by simp)))) (fun k hk=>.inl hk) ⟨v,F',rfl,hd⟩
theorem xexec_0 (hd:decB u=true) (hk:(insOf u).op=0):Calls Tryz.prog 17 #[.pointer (some ⟨kb,0,none⟩),.pointer (some ⟨sy,0,none⟩)] w (CSTo W w c sy F kb pb qb S (nextC (readC Q u)) []):=by
 have _:=hI
 have _:=hN
 have _:=hn
 have _:=hR
 have _:=hR2
 have _:=hT
 have hg:goodI (insOf u)=true:=by unfold decB at hd;rw [Bool.and_eq_true] at hd;exact hd.1
 obtain ⟨_,ga,gb,gc,gm⟩:=goodI_parts hg
 have hpl:=(List.getElem?_eq_some_iff.1 hx).1
 have hpn:=h.co.ok.np
 have hp:(readC Q u).pc<2147483648:=by show Q.pc<_;omega
 have DH:=dhere h.co hx
 rw [hd,show decI u=insOf u by unfold decI;rw [hd];rfl] at DH
 have HD:=Lib.hid DH
 have RU:=cruns h.co.own
 rw [hru] at RU
 have HRU:=Lib.hid RU
 have HP:=Lib.hid hp
 have H1:=Lib.hid (fun (w1:World) (hc:Chg [pb] w w1) (hC:Cor w1 kb pb qb (readC Q u))=>h.core (hc.mono (by simp)) hC)
 have EN:=Lib.hid (fun (w':World) (Q':Co) (h':CS W w' c sy F S kb pb qb Q') (hp:Q'.pc<2147483648)=>(dnext_nil h'.co h'.old hp).mono fun e w' hd=>h'.ofCo hd)
 have h8:(readC Q u).rg.length=8:=h.co.ok.h8
 clear h hI hN hn hR hR2 hT hru hx hd DH RU ga gb gc gm hg hpl hpn hp
 generalize insOf u=i at *
 generalize readC Q u=Q1 at *
 go_enter Tryz.func17,Tryz.ntmps17
 try dsimp only [List.append]
 go_wp2_with (first |(go_at_call 15;refine HRU.out.mono ?_;rintro e w' ⟨rfl,rfl⟩)|(go_at_call 41;refine HD.out.mono ?_;rintro e w1 ⟨rfl,hC1,hc1⟩;have hb1:=hC1.own;have H1:=Lib.hid (H1.out w1 hc1 hC1);have C1:=Lib.hid hc1;clear hC1 hc1))
 have hx2:(w1.alloc (.cells (insc i) 33)).heap[w1.heap.size]? =some (.cells (insc i) 33 (0,0)):=by simp
 have C2:=Lib.hid (show Chg [] w1 (w1.alloc (.cells (insc i) 33)) from (Chg.refl [] w1).alloc _)
 have hb2:=C2.out.keep hb1 (by simp)
 have H2:=Lib.hid (H1.out.keep0 C2.out)
 have HPK:=Lib.hid (show w1.heap.size≠kb∧w1.heap.size∉F from ⟨by have:=H1.out.co.oldk.lt;omega,fun hm=>by have:=H1.out.old _ hm;omega⟩)
 have G2:=Lib.hid (show Chg (kb::pb::qb::F) w (w1.alloc (.cells (insc i) 33)) from chg_core ((C1.out.mono (by simp)).trans (C2.out.mono (by simp))))
 clear hb1 H1 C1 C2 HD HRU
 generalize w1.alloc (.cells (insc i) 33)=w2 at *
 generalize w1.heap.size=p at *
 have o2:=old hb2
 have ox2:=old hx2
 have n1:¬p=kb:=HPK.out.1
 have n2:¬kb=p:=fun e=>HPK.out.1 e.symm
 refine (EN.out _ _ H2.out HP.out).mono ?_
 rintro e w4 ⟨v,F',rfl,hd⟩
 go_wp2_with fail
 go_ret
 exact CSTo.from G2.out (fun k hk=>.inl hk) ⟨v,F',rfl,hd⟩
theorem xexec_1 (hd:decB u=true) (hk:(insOf u).op=1):Calls Tryz.prog 17 #[.pointer (some ⟨kb,0,none⟩),.pointer (some ⟨sy,0,none⟩)] w (CSTo W w c sy F kb pb qb S (nextC (setR (readC Q u) (insOf u).a (IntKind.u64.wrap (insOf u).im))) []):=by
 have _:=hI
 have _:=hN
 have _:=hn
 have _:=hR
 have _:=hR2
 have _:=hT
 have hg:goodI (insOf u)=true:=by unfold decB at hd;rw [Bool.and_eq_true] at hd;exact hd.1
 obtain ⟨_,ga,gb,gc,gm⟩:=goodI_parts hg
 have hpl:=(List.getElem?_eq_some_iff.1 hx).1
 have hpn:=h.co.ok.np
 have hp:(readC Q u).pc<2147483648:=by show Q.pc<_;omega
 have DH:=dhere h.co hx
 rw [hd,show decI u=insOf u by unfold decI;rw [hd];rfl] at DH
 have HD:=Lib.hid DH
 have RU:=cruns h.co.own
 rw [hru] at RU
 have HRU:=Lib.hid RU
 have HP:=Lib.hid hp
 have H1:=Lib.hid (fun (w1:World) (hc:Chg [pb] w w1) (hC:Cor w1 kb pb qb (readC Q u))=>h.core (hc.mono (by simp)) hC)
 have EN:=Lib.hid (fun (w':World) (Q':Co) (h':CS W w' c sy F S kb pb qb Q') (hp:Q'.pc<2147483648)=>(dnext_nil h'.co h'.old hp).mono fun e w' hd=>h'.ofCo hd)
 obtain ⟨na,hna⟩:∃n:Nat,(insOf u).a=(n:Int):=⟨(insOf u).a.toNat,by omega⟩
 have la:na<8:=by omega
 have la':(na:Int)<8:=by omega
 rw [hna]
 have HV:=Lib.hid (u64_pos (insOf u).im)
 have h8:(readC Q u).rg.length=8:=h.co.ok.h8
 clear h hI hN hn hR hR2 hT hru hx hd DH RU ga gb gc gm hg hpl hpn hp
 generalize insOf u=i at *
 generalize readC Q u=Q1 at *
 go_enter Tryz.func17,Tryz.ntmps17
 try dsimp only [List.append]
 go_wp2_with (first |(go_at_call 15;refine HRU.out.mono ?_;rintro e w' ⟨rfl,rfl⟩)|(go_at_call 41;refine HD.out.mono ?_;rintro e w1 ⟨rfl,hC1,hc1⟩;have hb1:=hC1.own;have H1:=Lib.hid (H1.out w1 hc1 hC1);have C1:=Lib.hid hc1;clear hC1 hc1))
 have hx2:(w1.alloc (.cells (insc i) 33)).heap[w1.heap.size]? =some (.cells (insc i) 33 (0,0)):=by simp
 have C2:=Lib.hid (show Chg [] w1 (w1.alloc (.cells (insc i) 33)) from (Chg.refl [] w1).alloc _)
 have hb2:=C2.out.keep hb1 (by simp)
 have H2:=Lib.hid (H1.out.keep0 C2.out)
 have HPK:=Lib.hid (show w1.heap.size≠kb∧w1.heap.size∉F from ⟨by have:=H1.out.co.oldk.lt;omega,fun hm=>by have:=H1.out.old _ hm;omega⟩)
 have G2:=Lib.hid (show Chg (kb::pb::qb::F) w (w1.alloc (.cells (insc i) 33)) from chg_core ((C1.out.mono (by simp)).trans (C2.out.mono (by simp))))
 clear hb1 H1 C1 C2 HD HRU
 generalize w1.alloc (.cells (insc i) 33)=w2 at *
 generalize w1.heap.size=p at *
 have o2:=old hb2
 have ox2:=old hx2
 have n1:¬p=kb:=HPK.out.1
 have n2:¬kb=p:=fun e=>HPK.out.1 e.symm
 go_region
 all_goals
  go_wp2_with fail
  have cS:Chg [kb,pb,qb] w2 (w2.setCell ⟨kb,2+na,none⟩ (.int .u64 (IntKind.u64.wrap i.im))).drew:=((Chg.refl [kb,pb,qb] w2).setCell kb _ _ (.inl (by simp))).drew
  refine (EN.out _ _ ((H2.out.setReg la HV.out).keep0 (Chg.refl [] _).drew) HP.out).mono ?_
  rintro e w4 ⟨v,F',rfl,hd⟩
  go_wp2_with fail
  go_ret
  exact CSTo.from (G2.out.trans (chg_core cS)) (fun k hk=>.inl hk) ⟨v,F',rfl,hd⟩
theorem xexec_8 (hd:decB u=true) (hk:(insOf u).op=8):Calls Tryz.prog 17 #[.pointer (some ⟨kb,0,none⟩),.pointer (some ⟨sy,0,none⟩)] w (CSTo W w c sy F kb pb qb (accessC c S (readC Q u) (insOf u)).S (accessC c S (readC Q u) (insOf u)).Q (accessC c S (readC Q u) (insOf u)).ev):=by
 have _:=hI
 have _:=hN
 have _:=hn
 have _:=hR
 have _:=hR2
 have _:=hT
 have hg:goodI (insOf u)=true:=by unfold decB at hd;rw [Bool.and_eq_true] at hd;exact hd.1
 obtain ⟨_,ga,gb,gc,gm⟩:=goodI_parts hg
 have hpl:=(List.getElem?_eq_some_iff.1 hx).1
 have hpn:=h.co.ok.np
 have hp:(readC Q u).pc<2147483648:=by show Q.pc<_;omega
 have DH:=dhere h.co hx
 rw [hd,show decI u=insOf u by unfold decI;rw [hd];rfl] at DH
 have HD:=Lib.hid DH
 have RU:=cruns h.co.own
 rw [hru] at RU
 have HRU:=Lib.hid RU
 have HP:=Lib.hid hp
 have H1:=Lib.hid (fun (w1:World) (hc:Chg [pb] w w1) (hC:Cor w1 kb pb qb (readC Q u))=>h.core (hc.mono (by simp)) hC)
 have EA:=Lib.hid (fun (w':World) (h':CS W w' c sy F S kb pb qb (readC Q u))=>eaccess h' hI hN hn hR (fun li wo=>hR2 li wo) hT (insOf u) hg (by omega) hp)
 have h8:(readC Q u).rg.length=8:=h.co.ok.h8
 clear h hI hN hn hR hR2 hT hru hx hd DH RU ga gb gc gm hg hpl hpn hp
 generalize insOf u=i at *
 generalize readC Q u=Q1 at *
 go_enter Tryz.func17,Tryz.ntmps17
 try dsimp only [List.append]
 go_wp2_with (first |(go_at_call 15;refine HRU.out.mono ?_;rintro e w' ⟨rfl,rfl⟩)|(go_at_call 41;refine HD.out.mono ?_;rintro e w1 ⟨rfl,hC1,hc1⟩;have hb1:=hC1.own;have H1:=Lib.hid (H1.out w1 hc1 hC1);have C1:=Lib.hid hc1;clear hC1 hc1))
 have hx2:(w1.alloc (.cells (insc i) 33)).heap[w1.heap.size]? =some (.cells (insc i) 33 (0,0)):=by simp
 have C2:=Lib.hid (show Chg [] w1 (w1.alloc (.cells (insc i) 33)) from (Chg.refl [] w1).alloc _)
 have hb2:=C2.out.keep hb1 (by simp)
 have H2:=Lib.hid (H1.out.keep0 C2.out)
 have HPK:=Lib.hid (show w1.heap.size≠kb∧w1.heap.size∉F from ⟨by have:=H1.out.co.oldk.lt;omega,fun hm=>by have:=H1.out.old _ hm;omega⟩)
 have G2:=Lib.hid (show Chg (kb::pb::qb::F) w (w1.alloc (.cells (insc i) 33)) from chg_core ((C1.out.mono (by simp)).trans (C2.out.mono (by simp))))
 clear hb1 H1 C1 C2 HD HRU
 generalize w1.alloc (.cells (insc i) 33)=w2 at *
 generalize w1.heap.size=p at *
 have o2:=old hb2
 have ox2:=old hx2
 have n1:¬p=kb:=HPK.out.1
 have n2:¬kb=p:=fun e=>HPK.out.1 e.symm
 refine (EA.out _ H2.out).mono ?_
 rintro e w4 ⟨v,F',rfl,hd⟩
 go_wp2_with fail
 go_ret
 exact CSTo.from G2.out (fun k hk=>.inl hk) ⟨v,F',rfl,hd⟩
theorem xexec_9 (hd:decB u=true) (hk:(insOf u).op=9):Calls Tryz.prog 17 #[.pointer (some ⟨kb,0,none⟩),.pointer (some ⟨sy,0,none⟩)] w (CSTo W w c sy F kb pb qb (accessC c S (readC Q u) (insOf u)).S (accessC c S (readC Q u) (insOf u)).Q (accessC c S (readC Q u) (insOf u)).ev):=by
 have _:=hI
 have _:=hN
 have _:=hn
 have _:=hR
 have _:=hR2
 have _:=hT
 have hg:goodI (insOf u)=true:=by unfold decB at hd;rw [Bool.and_eq_true] at hd;exact hd.1
 obtain ⟨_,ga,gb,gc,gm⟩:=goodI_parts hg
 have hpl:=(List.getElem?_eq_some_iff.1 hx).1
 have hpn:=h.co.ok.np
 have hp:(readC Q u).pc<2147483648:=by show Q.pc<_;omega
 have DH:=dhere h.co hx
 rw [hd,show decI u=insOf u by unfold decI;rw [hd];rfl] at DH
 have HD:=Lib.hid DH
 have RU:=cruns h.co.own
 rw [hru] at RU
 have HRU:=Lib.hid RU
 have HP:=Lib.hid hp
 have H1:=Lib.hid (fun (w1:World) (hc:Chg [pb] w w1) (hC:Cor w1 kb pb qb (readC Q u))=>h.core (hc.mono (by simp)) hC)
 have EA:=Lib.hid (fun (w':World) (h':CS W w' c sy F S kb pb qb (readC Q u))=>eaccess h' hI hN hn hR (fun li wo=>hR2 li wo) hT (insOf u) hg (by omega) hp)
 have h8:(readC Q u).rg.length=8:=h.co.ok.h8
 clear h hI hN hn hR hR2 hT hru hx hd DH RU ga gb gc gm hg hpl hpn hp
 generalize insOf u=i at *
 generalize readC Q u=Q1 at *
 go_enter Tryz.func17,Tryz.ntmps17
 try dsimp only [List.append]
 go_wp2_with (first |(go_at_call 15;refine HRU.out.mono ?_;rintro e w' ⟨rfl,rfl⟩)|(go_at_call 41;refine HD.out.mono ?_;rintro e w1 ⟨rfl,hC1,hc1⟩;have hb1:=hC1.own;have H1:=Lib.hid (H1.out w1 hc1 hC1);have C1:=Lib.hid hc1;clear hC1 hc1))
 have hx2:(w1.alloc (.cells (insc i) 33)).heap[w1.heap.size]? =some (.cells (insc i) 33 (0,0)):=by simp
 have C2:=Lib.hid (show Chg [] w1 (w1.alloc (.cells (insc i) 33)) from (Chg.refl [] w1).alloc _)
 have hb2:=C2.out.keep hb1 (by simp)
 have H2:=Lib.hid (H1.out.keep0 C2.out)
 have HPK:=Lib.hid (show w1.heap.size≠kb∧w1.heap.size∉F from ⟨by have:=H1.out.co.oldk.lt;omega,fun hm=>by have:=H1.out.old _ hm;omega⟩)
 have G2:=Lib.hid (show Chg (kb::pb::qb::F) w (w1.alloc (.cells (insc i) 33)) from chg_core ((C1.out.mono (by simp)).trans (C2.out.mono (by simp))))
 clear hb1 H1 C1 C2 HD HRU
 generalize w1.alloc (.cells (insc i) 33)=w2 at *
 generalize w1.heap.size=p at *
 have o2:=old hb2
 have ox2:=old hx2
 have n1:¬p=kb:=HPK.out.1
 have n2:¬kb=p:=fun e=>HPK.out.1 e.symm
 refine (EA.out _ H2.out).mono ?_
 rintro e w4 ⟨v,F',rfl,hd⟩
 go_wp2_with fail
 go_ret
 exact CSTo.from G2.out (fun k hk=>.inl hk) ⟨v,F',rfl,hd⟩
theorem xexec_10 (hd:decB u=true) (hk:(insOf u).op=10):Calls Tryz.prog 17 #[.pointer (some ⟨kb,0,none⟩),.pointer (some ⟨sy,0,none⟩)] w (CSTo W w c sy F kb pb qb (accessC c S (readC Q u) (insOf u)).S (accessC c S (readC Q u) (insOf u)).Q (accessC c S (readC Q u) (insOf u)).ev):=by
 have _:=hI
 have _:=hN
 have _:=hn
 have _:=hR
 have _:=hR2
 have _:=hT
 have hg:goodI (insOf u)=true:=by unfold decB at hd;rw [Bool.and_eq_true] at hd;exact hd.1
 obtain ⟨_,ga,gb,gc,gm⟩:=goodI_parts hg
 have hpl:=(List.getElem?_eq_some_iff.1 hx).1
 have hpn:=h.co.ok.np
 have hp:(readC Q u).pc<2147483648:=by show Q.pc<_;omega
 have DH:=dhere h.co hx
 rw [hd,show decI u=insOf u by unfold decI;rw [hd];rfl] at DH
 have HD:=Lib.hid DH
 have RU:=cruns h.co.own
 rw [hru] at RU
 have HRU:=Lib.hid RU
 have HP:=Lib.hid hp
 have H1:=Lib.hid (fun (w1:World) (hc:Chg [pb] w w1) (hC:Cor w1 kb pb qb (readC Q u))=>h.core (hc.mono (by simp)) hC)
 have EA:=Lib.hid (fun (w':World) (h':CS W w' c sy F S kb pb qb (readC Q u))=>eaccess h' hI hN hn hR (fun li wo=>hR2 li wo) hT (insOf u) hg (by omega) hp)
 have h8:(readC Q u).rg.length=8:=h.co.ok.h8
 clear h hI hN hn hR hR2 hT hru hx hd DH RU ga gb gc gm hg hpl hpn hp
 generalize insOf u=i at *
 generalize readC Q u=Q1 at *
 go_enter Tryz.func17,Tryz.ntmps17
 try dsimp only [List.append]
 go_wp2_with (first |(go_at_call 15;refine HRU.out.mono ?_;rintro e w' ⟨rfl,rfl⟩)|(go_at_call 41;refine HD.out.mono ?_;rintro e w1 ⟨rfl,hC1,hc1⟩;have hb1:=hC1.own;have H1:=Lib.hid (H1.out w1 hc1 hC1);have C1:=Lib.hid hc1;clear hC1 hc1))
 have hx2:(w1.alloc (.cells (insc i) 33)).heap[w1.heap.size]? =some (.cells (insc i) 33 (0,0)):=by simp
 have C2:=Lib.hid (show Chg [] w1 (w1.alloc (.cells (insc i) 33)) from (Chg.refl [] w1).alloc _)
 have hb2:=C2.out.keep hb1 (by simp)
 have H2:=Lib.hid (H1.out.keep0 C2.out)
 have HPK:=Lib.hid (show w1.heap.size≠kb∧w1.heap.size∉F from ⟨by have:=H1.out.co.oldk.lt;omega,fun hm=>by have:=H1.out.old _ hm;omega⟩)
 have G2:=Lib.hid (show Chg (kb::pb::qb::F) w (w1.alloc (.cells (insc i) 33)) from chg_core ((C1.out.mono (by simp)).trans (C2.out.mono (by simp))))
 clear hb1 H1 C1 C2 HD HRU
 generalize w1.alloc (.cells (insc i) 33)=w2 at *
 generalize w1.heap.size=p at *
 have o2:=old hb2
 have ox2:=old hx2
 have n1:¬p=kb:=HPK.out.1
 have n2:¬kb=p:=fun e=>HPK.out.1 e.symm
 refine (EA.out _ H2.out).mono ?_
 rintro e w4 ⟨v,F',rfl,hd⟩
 go_wp2_with fail
 go_ret
 exact CSTo.from G2.out (fun k hk=>.inl hk) ⟨v,F',rfl,hd⟩
theorem xexec_11 (hd:decB u=true) (hk:(insOf u).op=11):Calls Tryz.prog 17 #[.pointer (some ⟨kb,0,none⟩),.pointer (some ⟨sy,0,none⟩)] w (CSTo W w c sy F kb pb qb (accessC c S (readC Q u) (insOf u)).S (accessC c S (readC Q u) (insOf u)).Q (accessC c S (readC Q u) (insOf u)).ev):=by
 have _:=hI
 have _:=hN
 have _:=hn
 have _:=hR
 have _:=hR2
 have _:=hT
 have hg:goodI (insOf u)=true:=by unfold decB at hd;rw [Bool.and_eq_true] at hd;exact hd.1
 obtain ⟨_,ga,gb,gc,gm⟩:=goodI_parts hg
 have hpl:=(List.getElem?_eq_some_iff.1 hx).1
 have hpn:=h.co.ok.np
 have hp:(readC Q u).pc<2147483648:=by show Q.pc<_;omega
 have DH:=dhere h.co hx
 rw [hd,show decI u=insOf u by unfold decI;rw [hd];rfl] at DH
 have HD:=Lib.hid DH
 have RU:=cruns h.co.own
 rw [hru] at RU
 have HRU:=Lib.hid RU
 have HP:=Lib.hid hp
 have H1:=Lib.hid (fun (w1:World) (hc:Chg [pb] w w1) (hC:Cor w1 kb pb qb (readC Q u))=>h.core (hc.mono (by simp)) hC)
 have EA:=Lib.hid (fun (w':World) (h':CS W w' c sy F S kb pb qb (readC Q u))=>eaccess h' hI hN hn hR (fun li wo=>hR2 li wo) hT (insOf u) hg (by omega) hp)
 have h8:(readC Q u).rg.length=8:=h.co.ok.h8
 clear h hI hN hn hR hR2 hT hru hx hd DH RU ga gb gc gm hg hpl hpn hp
 generalize insOf u=i at *
 generalize readC Q u=Q1 at *
 go_enter Tryz.func17,Tryz.ntmps17
 try dsimp only [List.append]
 go_wp2_with (first |(go_at_call 15;refine HRU.out.mono ?_;rintro e w' ⟨rfl,rfl⟩)|(go_at_call 41;refine HD.out.mono ?_;rintro e w1 ⟨rfl,hC1,hc1⟩;have hb1:=hC1.own;have H1:=Lib.hid (H1.out w1 hc1 hC1);have C1:=Lib.hid hc1;clear hC1 hc1))
 have hx2:(w1.alloc (.cells (insc i) 33)).heap[w1.heap.size]? =some (.cells (insc i) 33 (0,0)):=by simp
 have C2:=Lib.hid (show Chg [] w1 (w1.alloc (.cells (insc i) 33)) from (Chg.refl [] w1).alloc _)
 have hb2:=C2.out.keep hb1 (by simp)
 have H2:=Lib.hid (H1.out.keep0 C2.out)
 have HPK:=Lib.hid (show w1.heap.size≠kb∧w1.heap.size∉F from ⟨by have:=H1.out.co.oldk.lt;omega,fun hm=>by have:=H1.out.old _ hm;omega⟩)
 have G2:=Lib.hid (show Chg (kb::pb::qb::F) w (w1.alloc (.cells (insc i) 33)) from chg_core ((C1.out.mono (by simp)).trans (C2.out.mono (by simp))))
 clear hb1 H1 C1 C2 HD HRU
 generalize w1.alloc (.cells (insc i) 33)=w2 at *
 generalize w1.heap.size=p at *
 have o2:=old hb2
 have ox2:=old hx2
 have n1:¬p=kb:=HPK.out.1
 have n2:¬kb=p:=fun e=>HPK.out.1 e.symm
 refine (EA.out _ H2.out).mono ?_
 rintro e w4 ⟨v,F',rfl,hd⟩
 go_wp2_with fail
 go_ret
 exact CSTo.from G2.out (fun k hk=>.inl hk) ⟨v,F',rfl,hd⟩
theorem xexec_12 (hd:decB u=true) (hk:(insOf u).op=12):Calls Tryz.prog 17 #[.pointer (some ⟨kb,0,none⟩),.pointer (some ⟨sy,0,none⟩)] w (CSTo W w c sy F kb pb qb (accessC c S (readC Q u) (insOf u)).S (accessC c S (readC Q u) (insOf u)).Q (accessC c S (readC Q u) (insOf u)).ev):=by
 have _:=hI
 have _:=hN
 have _:=hn
 have _:=hR
 have _:=hR2
 have _:=hT
 have hg:goodI (insOf u)=true:=by unfold decB at hd;rw [Bool.and_eq_true] at hd;exact hd.1
 obtain ⟨_,ga,gb,gc,gm⟩:=goodI_parts hg
 have hpl:=(List.getElem?_eq_some_iff.1 hx).1
 have hpn:=h.co.ok.np
 have hp:(readC Q u).pc<2147483648:=by show Q.pc<_;omega
 have DH:=dhere h.co hx
 rw [hd,show decI u=insOf u by unfold decI;rw [hd];rfl] at DH
 have HD:=Lib.hid DH
 have RU:=cruns h.co.own
 rw [hru] at RU
 have HRU:=Lib.hid RU
 have HP:=Lib.hid hp
 have H1:=Lib.hid (fun (w1:World) (hc:Chg [pb] w w1) (hC:Cor w1 kb pb qb (readC Q u))=>h.core (hc.mono (by simp)) hC)
 have EA:=Lib.hid (fun (w':World) (h':CS W w' c sy F S kb pb qb (readC Q u))=>eaccess h' hI hN hn hR (fun li wo=>hR2 li wo) hT (insOf u) hg (by omega) hp)
 have h8:(readC Q u).rg.length=8:=h.co.ok.h8
 clear h hI hN hn hR hR2 hT hru hx hd DH RU ga gb gc gm hg hpl hpn hp
 generalize insOf u=i at *
 generalize readC Q u=Q1 at *
 go_enter Tryz.func17,Tryz.ntmps17
 try dsimp only [List.append]
 go_wp2_with (first |(go_at_call 15;refine HRU.out.mono ?_;rintro e w' ⟨rfl,rfl⟩)|(go_at_call 41;refine HD.out.mono ?_;rintro e w1 ⟨rfl,hC1,hc1⟩;have hb1:=hC1.own;have H1:=Lib.hid (H1.out w1 hc1 hC1);have C1:=Lib.hid hc1;clear hC1 hc1))
 have hx2:(w1.alloc (.cells (insc i) 33)).heap[w1.heap.size]? =some (.cells (insc i) 33 (0,0)):=by simp
 have C2:=Lib.hid (show Chg [] w1 (w1.alloc (.cells (insc i) 33)) from (Chg.refl [] w1).alloc _)
 have hb2:=C2.out.keep hb1 (by simp)
 have H2:=Lib.hid (H1.out.keep0 C2.out)
 have HPK:=Lib.hid (show w1.heap.size≠kb∧w1.heap.size∉F from ⟨by have:=H1.out.co.oldk.lt;omega,fun hm=>by have:=H1.out.old _ hm;omega⟩)
 have G2:=Lib.hid (show Chg (kb::pb::qb::F) w (w1.alloc (.cells (insc i) 33)) from chg_core ((C1.out.mono (by simp)).trans (C2.out.mono (by simp))))
 clear hb1 H1 C1 C2 HD HRU
 generalize w1.alloc (.cells (insc i) 33)=w2 at *
 generalize w1.heap.size=p at *
 have o2:=old hb2
 have ox2:=old hx2
 have n1:¬p=kb:=HPK.out.1
 have n2:¬kb=p:=fun e=>HPK.out.1 e.symm
 refine (EA.out _ H2.out).mono ?_
 rintro e w4 ⟨v,F',rfl,hd⟩
 go_wp2_with fail
 go_ret
 exact CSTo.from G2.out (fun k hk=>.inl hk) ⟨v,F',rfl,hd⟩
theorem xexec_13 (hd:decB u=true) (hk:(insOf u).op=13):Calls Tryz.prog 17 #[.pointer (some ⟨kb,0,none⟩),.pointer (some ⟨sy,0,none⟩)] w (CSTo W w c sy F kb pb qb (accessC c S (readC Q u) (insOf u)).S (accessC c S (readC Q u) (insOf u)).Q (accessC c S (readC Q u) (insOf u)).ev):=by
 have _:=hI
 have _:=hN
 have _:=hn
 have _:=hR
 have _:=hR2
 have _:=hT
 have hg:goodI (insOf u)=true:=by unfold decB at hd;rw [Bool.and_eq_true] at hd;exact hd.1
 obtain ⟨_,ga,gb,gc,gm⟩:=goodI_parts hg
 have hpl:=(List.getElem?_eq_some_iff.1 hx).1
 have hpn:=h.co.ok.np
 have hp:(readC Q u).pc<2147483648:=by show Q.pc<_;omega
 have DH:=dhere h.co hx
 rw [hd,show decI u=insOf u by unfold decI;rw [hd];rfl] at DH
 have HD:=Lib.hid DH
 have RU:=cruns h.co.own
 rw [hru] at RU
 have HRU:=Lib.hid RU
 have HP:=Lib.hid hp
 have H1:=Lib.hid (fun (w1:World) (hc:Chg [pb] w w1) (hC:Cor w1 kb pb qb (readC Q u))=>h.core (hc.mono (by simp)) hC)
 have EA:=Lib.hid (fun (w':World) (h':CS W w' c sy F S kb pb qb (readC Q u))=>eaccess h' hI hN hn hR (fun li wo=>hR2 li wo) hT (insOf u) hg (by omega) hp)
 have h8:(readC Q u).rg.length=8:=h.co.ok.h8
 clear h hI hN hn hR hR2 hT hru hx hd DH RU ga gb gc gm hg hpl hpn hp
 generalize insOf u=i at *
 generalize readC Q u=Q1 at *
 go_enter Tryz.func17,Tryz.ntmps17
 try dsimp only [List.append]
 go_wp2_with (first |(go_at_call 15;refine HRU.out.mono ?_;rintro e w' ⟨rfl,rfl⟩)|(go_at_call 41;refine HD.out.mono ?_;rintro e w1 ⟨rfl,hC1,hc1⟩;have hb1:=hC1.own;have H1:=Lib.hid (H1.out w1 hc1 hC1);have C1:=Lib.hid hc1;clear hC1 hc1))
 have hx2:(w1.alloc (.cells (insc i) 33)).heap[w1.heap.size]? =some (.cells (insc i) 33 (0,0)):=by simp
 have C2:=Lib.hid (show Chg [] w1 (w1.alloc (.cells (insc i) 33)) from (Chg.refl [] w1).alloc _)
 have hb2:=C2.out.keep hb1 (by simp)
 have H2:=Lib.hid (H1.out.keep0 C2.out)
 have HPK:=Lib.hid (show w1.heap.size≠kb∧w1.heap.size∉F from ⟨by have:=H1.out.co.oldk.lt;omega,fun hm=>by have:=H1.out.old _ hm;omega⟩)
 have G2:=Lib.hid (show Chg (kb::pb::qb::F) w (w1.alloc (.cells (insc i) 33)) from chg_core ((C1.out.mono (by simp)).trans (C2.out.mono (by simp))))
 clear hb1 H1 C1 C2 HD HRU
 generalize w1.alloc (.cells (insc i) 33)=w2 at *
 generalize w1.heap.size=p at *
 have o2:=old hb2
 have ox2:=old hx2
 have n1:¬p=kb:=HPK.out.1
 have n2:¬kb=p:=fun e=>HPK.out.1 e.symm
 refine (EA.out _ H2.out).mono ?_
 rintro e w4 ⟨v,F',rfl,hd⟩
 go_wp2_with fail
 go_ret
 exact CSTo.from G2.out (fun k hk=>.inl hk) ⟨v,F',rfl,hd⟩
theorem xexec_14 (hd:decB u=true) (hk:(insOf u).op=14):Calls Tryz.prog 17 #[.pointer (some ⟨kb,0,none⟩),.pointer (some ⟨sy,0,none⟩)] w (CSTo W w c sy F kb pb qb (accessC c S (readC Q u) (insOf u)).S (accessC c S (readC Q u) (insOf u)).Q (accessC c S (readC Q u) (insOf u)).ev):=by
 have _:=hI
 have _:=hN
 have _:=hn
 have _:=hR
 have _:=hR2
 have _:=hT
 have hg:goodI (insOf u)=true:=by unfold decB at hd;rw [Bool.and_eq_true] at hd;exact hd.1
 obtain ⟨_,ga,gb,gc,gm⟩:=goodI_parts hg
 have hpl:=(List.getElem?_eq_some_iff.1 hx).1
 have hpn:=h.co.ok.np
 have hp:(readC Q u).pc<2147483648:=by show Q.pc<_;omega
 have DH:=dhere h.co hx
 rw [hd,show decI u=insOf u by unfold decI;rw [hd];rfl] at DH
 have HD:=Lib.hid DH
 have RU:=cruns h.co.own
 rw [hru] at RU
 have HRU:=Lib.hid RU
 have HP:=Lib.hid hp
 have H1:=Lib.hid (fun (w1:World) (hc:Chg [pb] w w1) (hC:Cor w1 kb pb qb (readC Q u))=>h.core (hc.mono (by simp)) hC)
 have EA:=Lib.hid (fun (w':World) (h':CS W w' c sy F S kb pb qb (readC Q u))=>eaccess h' hI hN hn hR (fun li wo=>hR2 li wo) hT (insOf u) hg (by omega) hp)
 have h8:(readC Q u).rg.length=8:=h.co.ok.h8
 clear h hI hN hn hR hR2 hT hru hx hd DH RU ga gb gc gm hg hpl hpn hp
 generalize insOf u=i at *
 generalize readC Q u=Q1 at *
 go_enter Tryz.func17,Tryz.ntmps17
 try dsimp only [List.append]
 go_wp2_with (first |(go_at_call 15;refine HRU.out.mono ?_;rintro e w' ⟨rfl,rfl⟩)|(go_at_call 41;refine HD.out.mono ?_;rintro e w1 ⟨rfl,hC1,hc1⟩;have hb1:=hC1.own;have H1:=Lib.hid (H1.out w1 hc1 hC1);have C1:=Lib.hid hc1;clear hC1 hc1))
 have hx2:(w1.alloc (.cells (insc i) 33)).heap[w1.heap.size]? =some (.cells (insc i) 33 (0,0)):=by simp
 have C2:=Lib.hid (show Chg [] w1 (w1.alloc (.cells (insc i) 33)) from (Chg.refl [] w1).alloc _)
 have hb2:=C2.out.keep hb1 (by simp)
 have H2:=Lib.hid (H1.out.keep0 C2.out)
 have HPK:=Lib.hid (show w1.heap.size≠kb∧w1.heap.size∉F from ⟨by have:=H1.out.co.oldk.lt;omega,fun hm=>by have:=H1.out.old _ hm;omega⟩)
 have G2:=Lib.hid (show Chg (kb::pb::qb::F) w (w1.alloc (.cells (insc i) 33)) from chg_core ((C1.out.mono (by simp)).trans (C2.out.mono (by simp))))
 clear hb1 H1 C1 C2 HD HRU
 generalize w1.alloc (.cells (insc i) 33)=w2 at *
 generalize w1.heap.size=p at *
 have o2:=old hb2
 have ox2:=old hx2
 have n1:¬p=kb:=HPK.out.1
 have n2:¬kb=p:=fun e=>HPK.out.1 e.symm
 refine (EA.out _ H2.out).mono ?_
 rintro e w4 ⟨v,F',rfl,hd⟩
 go_wp2_with fail
 go_ret
 exact CSTo.from G2.out (fun k hk=>.inl hk) ⟨v,F',rfl,hd⟩
theorem xexec_15 (hd:decB u=true) (hk:(insOf u).op=15):Calls Tryz.prog 17 #[.pointer (some ⟨kb,0,none⟩),.pointer (some ⟨sy,0,none⟩)] w (CSTo W w c sy F kb pb qb S (if settledB (readC Q u) then nextC (readC Q u) else readC Q u) (if settledB (readC Q u) then [evC (readC Q u) 7 0 0 0] else [])):=by
 have _:=hI
 have _:=hN
 have _:=hn
 have _:=hR
 have _:=hR2
 have _:=hT
 have hg:goodI (insOf u)=true:=by unfold decB at hd;rw [Bool.and_eq_true] at hd;exact hd.1
 obtain ⟨_,ga,gb,gc,gm⟩:=goodI_parts hg
 have hpl:=(List.getElem?_eq_some_iff.1 hx).1
 have hpn:=h.co.ok.np
 have hp:(readC Q u).pc<2147483648:=by show Q.pc<_;omega
 have DH:=dhere h.co hx
 rw [hd,show decI u=insOf u by unfold decI;rw [hd];rfl] at DH
 have HD:=Lib.hid DH
 have RU:=cruns h.co.own
 rw [hru] at RU
 have HRU:=Lib.hid RU
 have HP:=Lib.hid hp
 have H1:=Lib.hid (fun (w1:World) (hc:Chg [pb] w w1) (hC:Cor w1 kb pb qb (readC Q u))=>h.core (hc.mono (by simp)) hC)
 have EF:=Lib.hid (fun (w':World) (h':CS W w' c sy F S kb pb qb (readC Q u))=>(dfence h'.co h'.old hp).mono fun e w' hd=>h'.ofCo hd)
 have h8:(readC Q u).rg.length=8:=h.co.ok.h8
 clear h hI hN hn hR hR2 hT hru hx hd DH RU ga gb gc gm hg hpl hpn hp
 generalize insOf u=i at *
 generalize readC Q u=Q1 at *
 generalize (if settledB Q1 then nextC Q1 else Q1)=Q2 at *
 generalize (if settledB Q1 then [evC Q1 7 0 0 0] else [])=l2 at *
 go_enter Tryz.func17,Tryz.ntmps17
 try dsimp only [List.append]
 go_wp2_with (first |(go_at_call 15;refine HRU.out.mono ?_;rintro e w' ⟨rfl,rfl⟩)|(go_at_call 41;refine HD.out.mono ?_;rintro e w1 ⟨rfl,hC1,hc1⟩;have hb1:=hC1.own;have H1:=Lib.hid (H1.out w1 hc1 hC1);have C1:=Lib.hid hc1;clear hC1 hc1))
 have hx2:(w1.alloc (.cells (insc i) 33)).heap[w1.heap.size]? =some (.cells (insc i) 33 (0,0)):=by simp
 have C2:=Lib.hid (show Chg [] w1 (w1.alloc (.cells (insc i) 33)) from (Chg.refl [] w1).alloc _)
 have hb2:=C2.out.keep hb1 (by simp)
 have H2:=Lib.hid (H1.out.keep0 C2.out)
 have HPK:=Lib.hid (show w1.heap.size≠kb∧w1.heap.size∉F from ⟨by have:=H1.out.co.oldk.lt;omega,fun hm=>by have:=H1.out.old _ hm;omega⟩)
 have G2:=Lib.hid (show Chg (kb::pb::qb::F) w (w1.alloc (.cells (insc i) 33)) from chg_core ((C1.out.mono (by simp)).trans (C2.out.mono (by simp))))
 clear hb1 H1 C1 C2 HD HRU
 generalize w1.alloc (.cells (insc i) 33)=w2 at *
 generalize w1.heap.size=p at *
 have o2:=old hb2
 have ox2:=old hx2
 have n1:¬p=kb:=HPK.out.1
 have n2:¬kb=p:=fun e=>HPK.out.1 e.symm
 refine (EF.out _ H2.out).mono ?_
 rintro e w4 ⟨v,F',rfl,hd⟩
 go_wp2_with fail
 go_ret
 exact CSTo.from G2.out (fun k hk=>.inl hk) ⟨v,F',rfl,hd⟩
theorem xexec_16 (hd:decB u=true) (hk:(insOf u).op=16):Calls Tryz.prog 17 #[.pointer (some ⟨kb,0,none⟩),.pointer (some ⟨sy,0,none⟩)] w (CSTo W w c sy F kb pb qb S (if settledB (readC Q u) then nextC (readC Q u) else readC Q u) (if settledB (readC Q u) then [evC (readC Q u) 7 0 0 0] else [])):=by
 have _:=hI
 have _:=hN
 have _:=hn
 have _:=hR
 have _:=hR2
 have _:=hT
 have hg:goodI (insOf u)=true:=by unfold decB at hd;rw [Bool.and_eq_true] at hd;exact hd.1
 obtain ⟨_,ga,gb,gc,gm⟩:=goodI_parts hg
 have hpl:=(List.getElem?_eq_some_iff.1 hx).1
 have hpn:=h.co.ok.np
 have hp:(readC Q u).pc<2147483648:=by show Q.pc<_;omega
 have DH:=dhere h.co hx
 rw [hd,show decI u=insOf u by unfold decI;rw [hd];rfl] at DH
 have HD:=Lib.hid DH
 have RU:=cruns h.co.own
 rw [hru] at RU
 have HRU:=Lib.hid RU
 have HP:=Lib.hid hp
 have H1:=Lib.hid (fun (w1:World) (hc:Chg [pb] w w1) (hC:Cor w1 kb pb qb (readC Q u))=>h.core (hc.mono (by simp)) hC)
 have EF:=Lib.hid (fun (w':World) (h':CS W w' c sy F S kb pb qb (readC Q u))=>(dfence h'.co h'.old hp).mono fun e w' hd=>h'.ofCo hd)
 have h8:(readC Q u).rg.length=8:=h.co.ok.h8
 clear h hI hN hn hR hR2 hT hru hx hd DH RU ga gb gc gm hg hpl hpn hp
 generalize insOf u=i at *
 generalize readC Q u=Q1 at *
 generalize (if settledB Q1 then nextC Q1 else Q1)=Q2 at *
 generalize (if settledB Q1 then [evC Q1 7 0 0 0] else [])=l2 at *
 go_enter Tryz.func17,Tryz.ntmps17
 try dsimp only [List.append]
 go_wp2_with (first |(go_at_call 15;refine HRU.out.mono ?_;rintro e w' ⟨rfl,rfl⟩)|(go_at_call 41;refine HD.out.mono ?_;rintro e w1 ⟨rfl,hC1,hc1⟩;have hb1:=hC1.own;have H1:=Lib.hid (H1.out w1 hc1 hC1);have C1:=Lib.hid hc1;clear hC1 hc1))
 have hx2:(w1.alloc (.cells (insc i) 33)).heap[w1.heap.size]? =some (.cells (insc i) 33 (0,0)):=by simp
 have C2:=Lib.hid (show Chg [] w1 (w1.alloc (.cells (insc i) 33)) from (Chg.refl [] w1).alloc _)
 have hb2:=C2.out.keep hb1 (by simp)
 have H2:=Lib.hid (H1.out.keep0 C2.out)
 have HPK:=Lib.hid (show w1.heap.size≠kb∧w1.heap.size∉F from ⟨by have:=H1.out.co.oldk.lt;omega,fun hm=>by have:=H1.out.old _ hm;omega⟩)
 have G2:=Lib.hid (show Chg (kb::pb::qb::F) w (w1.alloc (.cells (insc i) 33)) from chg_core ((C1.out.mono (by simp)).trans (C2.out.mono (by simp))))
 clear hb1 H1 C1 C2 HD HRU
 generalize w1.alloc (.cells (insc i) 33)=w2 at *
 generalize w1.heap.size=p at *
 have o2:=old hb2
 have ox2:=old hx2
 have n1:¬p=kb:=HPK.out.1
 have n2:¬kb=p:=fun e=>HPK.out.1 e.symm
 refine (EF.out _ H2.out).mono ?_
 rintro e w4 ⟨v,F',rfl,hd⟩
 go_wp2_with fail
 go_ret
 exact CSTo.from G2.out (fun k hk=>.inl hk) ⟨v,F',rfl,hd⟩
theorem xexec_17 (hd:decB u=true) (hk:(insOf u).op=17):Calls Tryz.prog 17 #[.pointer (some ⟨kb,0,none⟩),.pointer (some ⟨sy,0,none⟩)] w (CSTo W w c sy F kb pb qb S (if goV (insOf u).op (regA (readC Q u) (insOf u).a) (regA (readC Q u) (insOf u).b) then {readC Q u with pc:=(insOf u).im.toNat} else nextC (readC Q u)) []):=by
 have _:=hI
 have _:=hN
 have _:=hn
 have _:=hR
 have _:=hR2
 have _:=hT
 have hg:goodI (insOf u)=true:=by unfold decB at hd;rw [Bool.and_eq_true] at hd;exact hd.1
 obtain ⟨_,ga,gb,gc,gm⟩:=goodI_parts hg
 have hpl:=(List.getElem?_eq_some_iff.1 hx).1
 have hpn:=h.co.ok.np
 have hp:(readC Q u).pc<2147483648:=by show Q.pc<_;omega
 have DH:=dhere h.co hx
 rw [hd,show decI u=insOf u by unfold decI;rw [hd];rfl] at DH
 have HD:=Lib.hid DH
 have RU:=cruns h.co.own
 rw [hru] at RU
 have HRU:=Lib.hid RU
 have HP:=Lib.hid hp
 have H1:=Lib.hid (fun (w1:World) (hc:Chg [pb] w w1) (hC:Cor w1 kb pb qb (readC Q u))=>h.core (hc.mono (by simp)) hC)
 have hgm:0≤(insOf u).im∧(insOf u).im≤2147483647:=by
  have h1:goodM (insOf u).im (insOf u).op=true:=by simp only [goodI,Bool.and_eq_true] at hg;exact hg.2.2.2.2
  rw [hk] at h1
  unfold goodM goodMb at h1
  have e1:hasI 17=true:=by decide
  have e2:jumpB 17=true:=by decide
  rw [e1,e2] at h1
  simp at h1
  omega
 have EJ:=Lib.hid (fun (w':World) (h':CS W w' c sy F S kb pb qb (readC Q u))=>(djump h'.co h'.old (insOf u) ga gb hgm hp).mono fun e w' hd=>h'.ofCo hd)
 have h8:(readC Q u).rg.length=8:=h.co.ok.h8
 clear h hI hN hn hR hR2 hT hru hx hd DH RU ga gb gc gm hg hpl hpn hp
 generalize insOf u=i at *
 generalize readC Q u=Q1 at *
 generalize (if goV i.op (regA Q1 i.a) (regA Q1 i.b) then {Q1 with pc:=i.im.toNat} else nextC Q1)=Q2 at *
 go_enter Tryz.func17,Tryz.ntmps17
 try dsimp only [List.append]
 go_wp2_with (first |(go_at_call 15;refine HRU.out.mono ?_;rintro e w' ⟨rfl,rfl⟩)|(go_at_call 41;refine HD.out.mono ?_;rintro e w1 ⟨rfl,hC1,hc1⟩;have hb1:=hC1.own;have H1:=Lib.hid (H1.out w1 hc1 hC1);have C1:=Lib.hid hc1;clear hC1 hc1))
 have hx2:(w1.alloc (.cells (insc i) 33)).heap[w1.heap.size]? =some (.cells (insc i) 33 (0,0)):=by simp
 have C2:=Lib.hid (show Chg [] w1 (w1.alloc (.cells (insc i) 33)) from (Chg.refl [] w1).alloc _)
 have hb2:=C2.out.keep hb1 (by simp)
 have H2:=Lib.hid (H1.out.keep0 C2.out)
 have HPK:=Lib.hid (show w1.heap.size≠kb∧w1.heap.size∉F from ⟨by have:=H1.out.co.oldk.lt;omega,fun hm=>by have:=H1.out.old _ hm;omega⟩)
 have G2:=Lib.hid (show Chg (kb::pb::qb::F) w (w1.alloc (.cells (insc i) 33)) from chg_core ((C1.out.mono (by simp)).trans (C2.out.mono (by simp))))
 clear hb1 H1 C1 C2 HD HRU
 generalize w1.alloc (.cells (insc i) 33)=w2 at *
 generalize w1.heap.size=p at *
 have o2:=old hb2
 have ox2:=old hx2
 have n1:¬p=kb:=HPK.out.1
 have n2:¬kb=p:=fun e=>HPK.out.1 e.symm
 refine (EJ.out _ H2.out).mono ?_
 rintro e w4 ⟨v,F',rfl,hd⟩
 go_wp2_with fail
 go_ret
 exact CSTo.from G2.out (fun k hk=>.inl hk) ⟨v,F',rfl,hd⟩
theorem xexec_18 (hd:decB u=true) (hk:(insOf u).op=18):Calls Tryz.prog 17 #[.pointer (some ⟨kb,0,none⟩),.pointer (some ⟨sy,0,none⟩)] w (CSTo W w c sy F kb pb qb S (if goV (insOf u).op (regA (readC Q u) (insOf u).a) (regA (readC Q u) (insOf u).b) then {readC Q u with pc:=(insOf u).im.toNat} else nextC (readC Q u)) []):=by
 have _:=hI
 have _:=hN
 have _:=hn
 have _:=hR
 have _:=hR2
 have _:=hT
 have hg:goodI (insOf u)=true:=by unfold decB at hd;rw [Bool.and_eq_true] at hd;exact hd.1
 obtain ⟨_,ga,gb,gc,gm⟩:=goodI_parts hg
 have hpl:=(List.getElem?_eq_some_iff.1 hx).1
 have hpn:=h.co.ok.np
 have hp:(readC Q u).pc<2147483648:=by show Q.pc<_;omega
 have DH:=dhere h.co hx
 rw [hd,show decI u=insOf u by unfold decI;rw [hd];rfl] at DH
 have HD:=Lib.hid DH
 have RU:=cruns h.co.own
 rw [hru] at RU
 have HRU:=Lib.hid RU
 have HP:=Lib.hid hp
 have H1:=Lib.hid (fun (w1:World) (hc:Chg [pb] w w1) (hC:Cor w1 kb pb qb (readC Q u))=>h.core (hc.mono (by simp)) hC)
 have hgm:0≤(insOf u).im∧(insOf u).im≤2147483647:=by
  have h1:goodM (insOf u).im (insOf u).op=true:=by simp only [goodI,Bool.and_eq_true] at hg;exact hg.2.2.2.2
  rw [hk] at h1
  unfold goodM goodMb at h1
  have e1:hasI 18=true:=by decide
  have e2:jumpB 18=true:=by decide
  rw [e1,e2] at h1
  simp at h1
  omega
 have EJ:=Lib.hid (fun (w':World) (h':CS W w' c sy F S kb pb qb (readC Q u))=>(djump h'.co h'.old (insOf u) ga gb hgm hp).mono fun e w' hd=>h'.ofCo hd)
 have h8:(readC Q u).rg.length=8:=h.co.ok.h8
 clear h hI hN hn hR hR2 hT hru hx hd DH RU ga gb gc gm hg hpl hpn hp
 generalize insOf u=i at *
 generalize readC Q u=Q1 at *
 generalize (if goV i.op (regA Q1 i.a) (regA Q1 i.b) then {Q1 with pc:=i.im.toNat} else nextC Q1)=Q2 at *
 go_enter Tryz.func17,Tryz.ntmps17
 try dsimp only [List.append]
 go_wp2_with (first |(go_at_call 15;refine HRU.out.mono ?_;rintro e w' ⟨rfl,rfl⟩)|(go_at_call 41;refine HD.out.mono ?_;rintro e w1 ⟨rfl,hC1,hc1⟩;have hb1:=hC1.own;have H1:=Lib.hid (H1.out w1 hc1 hC1);have C1:=Lib.hid hc1;clear hC1 hc1))
 have hx2:(w1.alloc (.cells (insc i) 33)).heap[w1.heap.size]? =some (.cells (insc i) 33 (0,0)):=by simp
 have C2:=Lib.hid (show Chg [] w1 (w1.alloc (.cells (insc i) 33)) from (Chg.refl [] w1).alloc _)
 have hb2:=C2.out.keep hb1 (by simp)
 have H2:=Lib.hid (H1.out.keep0 C2.out)
 have HPK:=Lib.hid (show w1.heap.size≠kb∧w1.heap.size∉F from ⟨by have:=H1.out.co.oldk.lt;omega,fun hm=>by have:=H1.out.old _ hm;omega⟩)
 have G2:=Lib.hid (show Chg (kb::pb::qb::F) w (w1.alloc (.cells (insc i) 33)) from chg_core ((C1.out.mono (by simp)).trans (C2.out.mono (by simp))))
 clear hb1 H1 C1 C2 HD HRU
 generalize w1.alloc (.cells (insc i) 33)=w2 at *
 generalize w1.heap.size=p at *
 have o2:=old hb2
 have ox2:=old hx2
 have n1:¬p=kb:=HPK.out.1
 have n2:¬kb=p:=fun e=>HPK.out.1 e.symm
 refine (EJ.out _ H2.out).mono ?_
 rintro e w4 ⟨v,F',rfl,hd⟩
 go_wp2_with fail
 go_ret
 exact CSTo.from G2.out (fun k hk=>.inl hk) ⟨v,F',rfl,hd⟩
theorem xexec_19 (hd:decB u=true) (hk:(insOf u).op=19):Calls Tryz.prog 17 #[.pointer (some ⟨kb,0,none⟩),.pointer (some ⟨sy,0,none⟩)] w (CSTo W w c sy F kb pb qb S (if goV (insOf u).op (regA (readC Q u) (insOf u).a) (regA (readC Q u) (insOf u).b) then {readC Q u with pc:=(insOf u).im.toNat} else nextC (readC Q u)) []):=by
 have _:=hI
 have _:=hN
 have _:=hn
 have _:=hR
 have _:=hR2
 have _:=hT
 have hg:goodI (insOf u)=true:=by unfold decB at hd;rw [Bool.and_eq_true] at hd;exact hd.1
 obtain ⟨_,ga,gb,gc,gm⟩:=goodI_parts hg
 have hpl:=(List.getElem?_eq_some_iff.1 hx).1
 have hpn:=h.co.ok.np
 have hp:(readC Q u).pc<2147483648:=by show Q.pc<_;omega
 have DH:=dhere h.co hx
 rw [hd,show decI u=insOf u by unfold decI;rw [hd];rfl] at DH
 have HD:=Lib.hid DH
 have RU:=cruns h.co.own
 rw [hru] at RU
 have HRU:=Lib.hid RU
 have HP:=Lib.hid hp
 have H1:=Lib.hid (fun (w1:World) (hc:Chg [pb] w w1) (hC:Cor w1 kb pb qb (readC Q u))=>h.core (hc.mono (by simp)) hC)
 have hgm:0≤(insOf u).im∧(insOf u).im≤2147483647:=by
  have h1:goodM (insOf u).im (insOf u).op=true:=by simp only [goodI,Bool.and_eq_true] at hg;exact hg.2.2.2.2
  rw [hk] at h1
  unfold goodM goodMb at h1
  have e1:hasI 19=true:=by decide
  have e2:jumpB 19=true:=by decide
  rw [e1,e2] at h1
  simp at h1
  omega
 have EJ:=Lib.hid (fun (w':World) (h':CS W w' c sy F S kb pb qb (readC Q u))=>(djump h'.co h'.old (insOf u) ga gb hgm hp).mono fun e w' hd=>h'.ofCo hd)
 have h8:(readC Q u).rg.length=8:=h.co.ok.h8
 clear h hI hN hn hR hR2 hT hru hx hd DH RU ga gb gc gm hg hpl hpn hp
 generalize insOf u=i at *
 generalize readC Q u=Q1 at *
 generalize (if goV i.op (regA Q1 i.a) (regA Q1 i.b) then {Q1 with pc:=i.im.toNat} else nextC Q1)=Q2 at *
 go_enter Tryz.func17,Tryz.ntmps17
 try dsimp only [List.append]
 go_wp2_with (first |(go_at_call 15;refine HRU.out.mono ?_;rintro e w' ⟨rfl,rfl⟩)|(go_at_call 41;refine HD.out.mono ?_;rintro e w1 ⟨rfl,hC1,hc1⟩;have hb1:=hC1.own;have H1:=Lib.hid (H1.out w1 hc1 hC1);have C1:=Lib.hid hc1;clear hC1 hc1))
 have hx2:(w1.alloc (.cells (insc i) 33)).heap[w1.heap.size]? =some (.cells (insc i) 33 (0,0)):=by simp
 have C2:=Lib.hid (show Chg [] w1 (w1.alloc (.cells (insc i) 33)) from (Chg.refl [] w1).alloc _)
 have hb2:=C2.out.keep hb1 (by simp)
 have H2:=Lib.hid (H1.out.keep0 C2.out)
 have HPK:=Lib.hid (show w1.heap.size≠kb∧w1.heap.size∉F from ⟨by have:=H1.out.co.oldk.lt;omega,fun hm=>by have:=H1.out.old _ hm;omega⟩)
 have G2:=Lib.hid (show Chg (kb::pb::qb::F) w (w1.alloc (.cells (insc i) 33)) from chg_core ((C1.out.mono (by simp)).trans (C2.out.mono (by simp))))
 clear hb1 H1 C1 C2 HD HRU
 generalize w1.alloc (.cells (insc i) 33)=w2 at *
 generalize w1.heap.size=p at *
 have o2:=old hb2
 have ox2:=old hx2
 have n1:¬p=kb:=HPK.out.1
 have n2:¬kb=p:=fun e=>HPK.out.1 e.symm
 refine (EJ.out _ H2.out).mono ?_
 rintro e w4 ⟨v,F',rfl,hd⟩
 go_wp2_with fail
 go_ret
 exact CSTo.from G2.out (fun k hk=>.inl hk) ⟨v,F',rfl,hd⟩
theorem xexec_20 (hd:decB u=true) (hk:(insOf u).op=20):Calls Tryz.prog 17 #[.pointer (some ⟨kb,0,none⟩),.pointer (some ⟨sy,0,none⟩)] w (CSTo W w c sy F kb pb qb S (if goV (insOf u).op (regA (readC Q u) (insOf u).a) (regA (readC Q u) (insOf u).b) then {readC Q u with pc:=(insOf u).im.toNat} else nextC (readC Q u)) []):=by
 have _:=hI
 have _:=hN
 have _:=hn
 have _:=hR
 have _:=hR2
 have _:=hT
 have hg:goodI (insOf u)=true:=by unfold decB at hd;rw [Bool.and_eq_true] at hd;exact hd.1
 obtain ⟨_,ga,gb,gc,gm⟩:=goodI_parts hg
 have hpl:=(List.getElem?_eq_some_iff.1 hx).1
 have hpn:=h.co.ok.np
 have hp:(readC Q u).pc<2147483648:=by show Q.pc<_;omega
 have DH:=dhere h.co hx
 rw [hd,show decI u=insOf u by unfold decI;rw [hd];rfl] at DH
 have HD:=Lib.hid DH
 have RU:=cruns h.co.own
 rw [hru] at RU
 have HRU:=Lib.hid RU
 have HP:=Lib.hid hp
 have H1:=Lib.hid (fun (w1:World) (hc:Chg [pb] w w1) (hC:Cor w1 kb pb qb (readC Q u))=>h.core (hc.mono (by simp)) hC)
 have hgm:0≤(insOf u).im∧(insOf u).im≤2147483647:=by
  have h1:goodM (insOf u).im (insOf u).op=true:=by simp only [goodI,Bool.and_eq_true] at hg;exact hg.2.2.2.2
  rw [hk] at h1
  unfold goodM goodMb at h1
  have e1:hasI 20=true:=by decide
  have e2:jumpB 20=true:=by decide
  rw [e1,e2] at h1
  simp at h1
  omega
 have EJ:=Lib.hid (fun (w':World) (h':CS W w' c sy F S kb pb qb (readC Q u))=>(djump h'.co h'.old (insOf u) ga gb hgm hp).mono fun e w' hd=>h'.ofCo hd)
 have h8:(readC Q u).rg.length=8:=h.co.ok.h8
 clear h hI hN hn hR hR2 hT hru hx hd DH RU ga gb gc gm hg hpl hpn hp
 generalize insOf u=i at *
 generalize readC Q u=Q1 at *
 generalize (if goV i.op (regA Q1 i.a) (regA Q1 i.b) then {Q1 with pc:=i.im.toNat} else nextC Q1)=Q2 at *
 go_enter Tryz.func17,Tryz.ntmps17
 try dsimp only [List.append]
 go_wp2_with (first |(go_at_call 15;refine HRU.out.mono ?_;rintro e w' ⟨rfl,rfl⟩)|(go_at_call 41;refine HD.out.mono ?_;rintro e w1 ⟨rfl,hC1,hc1⟩;have hb1:=hC1.own;have H1:=Lib.hid (H1.out w1 hc1 hC1);have C1:=Lib.hid hc1;clear hC1 hc1))
 have hx2:(w1.alloc (.cells (insc i) 33)).heap[w1.heap.size]? =some (.cells (insc i) 33 (0,0)):=by simp
 have C2:=Lib.hid (show Chg [] w1 (w1.alloc (.cells (insc i) 33)) from (Chg.refl [] w1).alloc _)
 have hb2:=C2.out.keep hb1 (by simp)
 have H2:=Lib.hid (H1.out.keep0 C2.out)
 have HPK:=Lib.hid (show w1.heap.size≠kb∧w1.heap.size∉F from ⟨by have:=H1.out.co.oldk.lt;omega,fun hm=>by have:=H1.out.old _ hm;omega⟩)
 have G2:=Lib.hid (show Chg (kb::pb::qb::F) w (w1.alloc (.cells (insc i) 33)) from chg_core ((C1.out.mono (by simp)).trans (C2.out.mono (by simp))))
 clear hb1 H1 C1 C2 HD HRU
 generalize w1.alloc (.cells (insc i) 33)=w2 at *
 generalize w1.heap.size=p at *
 have o2:=old hb2
 have ox2:=old hx2
 have n1:¬p=kb:=HPK.out.1
 have n2:¬kb=p:=fun e=>HPK.out.1 e.symm
 refine (EJ.out _ H2.out).mono ?_
 rintro e w4 ⟨v,F',rfl,hd⟩
 go_wp2_with fail
 go_ret
 exact CSTo.from G2.out (fun k hk=>.inl hk) ⟨v,F',rfl,hd⟩
theorem xexec_21 (hd:decB u=true) (hk:(insOf u).op=21):Calls Tryz.prog 17 #[.pointer (some ⟨kb,0,none⟩),.pointer (some ⟨sy,0,none⟩)] w (CSTo W w c sy F kb pb qb S (nextC (readC Q u)) [evC (readC Q u) 8 0 0 (regA (readC Q u) (insOf u).a)]):=by
 have _:=hI
 have _:=hN
 have _:=hn
 have _:=hR
 have _:=hR2
 have _:=hT
 have hg:goodI (insOf u)=true:=by unfold decB at hd;rw [Bool.and_eq_true] at hd;exact hd.1
 obtain ⟨_,ga,gb,gc,gm⟩:=goodI_parts hg
 have hpl:=(List.getElem?_eq_some_iff.1 hx).1
 have hpn:=h.co.ok.np
 have hp:(readC Q u).pc<2147483648:=by show Q.pc<_;omega
 have DH:=dhere h.co hx
 rw [hd,show decI u=insOf u by unfold decI;rw [hd];rfl] at DH
 have HD:=Lib.hid DH
 have RU:=cruns h.co.own
 rw [hru] at RU
 have HRU:=Lib.hid RU
 have HP:=Lib.hid hp
 have H1:=Lib.hid (fun (w1:World) (hc:Chg [pb] w w1) (hC:Cor w1 kb pb qb (readC Q u))=>h.core (hc.mono (by simp)) hC)
 obtain ⟨na,hna⟩:∃n:Nat,(insOf u).a=(n:Int):=⟨(insOf u).a.toNat,by omega⟩
 have la:na<8:=by omega
 have la':(na:Int)<8:=by omega
 have ea:regA (readC Q u) (insOf u).a=regN (readC Q u).rg na:=by unfold regA;rw [hna,Int.toNat_natCast]
 rw [ea]
 clear ea
 have h8:(readC Q u).rg.length=8:=h.co.ok.h8
 clear h hI hN hn hR hR2 hT hru hx hd DH RU ga gb gc gm hg hpl hpn hp
 generalize insOf u=i at *
 generalize readC Q u=Q1 at *
 go_enter Tryz.func17,Tryz.ntmps17
 try dsimp only [List.append]
 go_wp2_with (first |(go_at_call 15;refine HRU.out.mono ?_;rintro e w' ⟨rfl,rfl⟩)|(go_at_call 41;refine HD.out.mono ?_;rintro e w1 ⟨rfl,hC1,hc1⟩;have hb1:=hC1.own;have H1:=Lib.hid (H1.out w1 hc1 hC1);have C1:=Lib.hid hc1;clear hC1 hc1))
 have hx2:(w1.alloc (.cells (insc i) 33)).heap[w1.heap.size]? =some (.cells (insc i) 33 (0,0)):=by simp
 have C2:=Lib.hid (show Chg [] w1 (w1.alloc (.cells (insc i) 33)) from (Chg.refl [] w1).alloc _)
 have hb2:=C2.out.keep hb1 (by simp)
 have H2:=Lib.hid (H1.out.keep0 C2.out)
 have HPK:=Lib.hid (show w1.heap.size≠kb∧w1.heap.size∉F from ⟨by have:=H1.out.co.oldk.lt;omega,fun hm=>by have:=H1.out.old _ hm;omega⟩)
 have G2:=Lib.hid (show Chg (kb::pb::qb::F) w (w1.alloc (.cells (insc i) 33)) from chg_core ((C1.out.mono (by simp)).trans (C2.out.mono (by simp))))
 clear hb1 H1 C1 C2 HD HRU
 generalize w1.alloc (.cells (insc i) 33)=w2 at *
 generalize w1.heap.size=p at *
 have o2:=old hb2
 have ox2:=old hx2
 have n1:¬p=kb:=HPK.out.1
 have n2:¬kb=p:=fun e=>HPK.out.1 e.symm
 have H3:=Lib.hid (H2.out.keep0 ((Chg.refl [] w2).drew))
 have G3:=Lib.hid (G2.out.drew)
 have hb3:=H3.out.co.own
 go_region_law (first |(go_simp;go_at_call 46;refine (cevent hb3 8 0 0 (regN Q1.rg na)).mono ?_;rintro e w5 ⟨rfl,c5⟩;have HC5:=Lib.hid c5;clear c5)|(go_simp;go_at_call 45;refine (dnext_ev H3.out.co H3.out.old HC5.out _ HP.out).mono ?_;rintro e w6 ⟨v,rfl,hv⟩))
 all_goals
  go_wp2_with fail
  go_ret
  exact CSTo.from G3.out (fun k hk=>.inl hk) (H3.out.ofCo ⟨v,rfl,hv⟩)
theorem xexec_22 (hd:decB u=true) (hk:(insOf u).op=22):Calls Tryz.prog 17 #[.pointer (some ⟨kb,0,none⟩),.pointer (some ⟨sy,0,none⟩)] w (CSTo W w c sy F kb pb qb S (stopC (readC Q u)) [evC (readC Q u) 9 0 0 0]):=by
 have _:=hI
 have _:=hN
 have _:=hn
 have _:=hR
 have _:=hR2
 have _:=hT
 have hg:goodI (insOf u)=true:=by unfold decB at hd;rw [Bool.and_eq_true] at hd;exact hd.1
 obtain ⟨_,ga,gb,gc,gm⟩:=goodI_parts hg
 have hpl:=(List.getElem?_eq_some_iff.1 hx).1
 have hpn:=h.co.ok.np
 have hp:(readC Q u).pc<2147483648:=by show Q.pc<_;omega
 have DH:=dhere h.co hx
 rw [hd,show decI u=insOf u by unfold decI;rw [hd];rfl] at DH
 have HD:=Lib.hid DH
 have RU:=cruns h.co.own
 rw [hru] at RU
 have HRU:=Lib.hid RU
 have HP:=Lib.hid hp
 have H1:=Lib.hid (fun (w1:World) (hc:Chg [pb] w w1) (hC:Cor w1 kb pb qb (readC Q u))=>h.core (hc.mono (by simp)) hC)
 have ED:=Lib.hid (fun (w':World) (h':CS W w' c sy F S kb pb qb (readC Q u)) (kd:Int)=>(dend h'.co h'.old kd).mono fun e w' hd=>h'.ofCo hd)
 have h8:(readC Q u).rg.length=8:=h.co.ok.h8
 clear h hI hN hn hR hR2 hT hru hx hd DH RU ga gb gc gm hg hpl hpn hp
 generalize insOf u=i at *
 generalize readC Q u=Q1 at *
 go_enter Tryz.func17,Tryz.ntmps17
 try dsimp only [List.append]
 go_wp2_with (first |(go_at_call 15;refine HRU.out.mono ?_;rintro e w' ⟨rfl,rfl⟩)|(go_at_call 41;refine HD.out.mono ?_;rintro e w1 ⟨rfl,hC1,hc1⟩;have hb1:=hC1.own;have H1:=Lib.hid (H1.out w1 hc1 hC1);have C1:=Lib.hid hc1;clear hC1 hc1))
 have hx2:(w1.alloc (.cells (insc i) 33)).heap[w1.heap.size]? =some (.cells (insc i) 33 (0,0)):=by simp
 have C2:=Lib.hid (show Chg [] w1 (w1.alloc (.cells (insc i) 33)) from (Chg.refl [] w1).alloc _)
 have hb2:=C2.out.keep hb1 (by simp)
 have H2:=Lib.hid (H1.out.keep0 C2.out)
 have HPK:=Lib.hid (show w1.heap.size≠kb∧w1.heap.size∉F from ⟨by have:=H1.out.co.oldk.lt;omega,fun hm=>by have:=H1.out.old _ hm;omega⟩)
 have G2:=Lib.hid (show Chg (kb::pb::qb::F) w (w1.alloc (.cells (insc i) 33)) from chg_core ((C1.out.mono (by simp)).trans (C2.out.mono (by simp))))
 clear hb1 H1 C1 C2 HD HRU
 generalize w1.alloc (.cells (insc i) 33)=w2 at *
 generalize w1.heap.size=p at *
 have o2:=old hb2
 have ox2:=old hx2
 have n1:¬p=kb:=HPK.out.1
 have n2:¬kb=p:=fun e=>HPK.out.1 e.symm
 refine (ED.out _ H2.out 9).mono ?_
 rintro e w4 ⟨v,F',rfl,hd⟩
 go_wp2_with fail
 go_ret
 exact CSTo.from G2.out (fun k hk=>.inl hk) ⟨v,F',rfl,hd⟩
end
end
section
set_option maxRecDepth 100000
attribute [local go_sem ↓] append_appS copy_copS clear_clrS make_mkS cell_row frozen_row heap_drew heap_drewN heap_alloc heap_past heap_setCell heap_putRow loadSe storeSe loadIns storeIns loadEv storeEv loadRg storeRg sec_kd sec_li sec_wo sec_va sec_sn insc_op insc_a insc_b insc_c insc_im evc_kd evc_co evc_li evc_wo evc_va coc_id coc_ru coc_reg coc_pr coc_pc coc_qb coc_wt
attribute [local go_sem] rowCell_some rowFrozen_some rowHas_some rowIn_some rowPart_full rowPut_full rowSet_some run_loadS run_storeS run_appS run_copS run_clrS run_mkS loadW_at storeW_at fit_all fit_le one_int one_bool one_pointer one_slice allOne_list putRow_new ne_size1 ne_size2 wideSe wideIns wideEv wideRg sec_size sec_one sec_lit sec_z sec_ne sec_set0 sec_set1 sec_set2 sec_set3 seZ_kd seZ_li seZ_wo seZ_va seZ_sn insc_size insc_one insc_ne insc_lit insc_z evc_size evc_one evc_ne evc_lit evc_z evc_set0 evc_set1 evc_set2 evc_set3 evc_set4 evZ_kd evZ_co evZ_li evZ_wo evZ_va fold_evc coc_setRu coc_size coc_setPc coc_setWt coc_setReg coc_regs vs_size vs_one
attribute [local simp ↓] heap_drew heap_drewN heap_alloc heap_past heap_setCell heap_putRow
attribute [local simp] rowCell_some rowFrozen_some rowHas_some rowIn_some rowPart_full rowPut_full rowSet_some fit_all putRow_new ne_size1 ne_size2 sec_size insc_size evc_size coc_size coc_setRu coc_setPc coc_setWt coc_setReg vs_size fit_le
attribute [local go_sem ↓] heap_drewN
section
variable {W w:World} {c:Cg} {sy n:Nat} {F:List Nat} {S:Mst} {cur:Nat→List Int} {kb pb qb:Nat} {Q:Co} (h:CS W w c sy F S kb pb qb Q)
include h
theorem xexec_off (hru:Q.ru=false) (s:Nat):Calls Tryz.prog 17 #[.pointer (some ⟨kb,0,none⟩),.pointer (some ⟨s,0,none⟩)] w (CSTo W w c sy F kb pb qb S Q []):=by
 have RU:=cruns h.co.own
 rw [hru] at RU
 have HRU:=Lib.hid RU
 have H:=Lib.hid h
 clear h hru RU
 go_enter Tryz.func17,Tryz.ntmps17
 try dsimp only [List.append]
 go_wp2_with (go_at_call 15;refine HRU.out.mono ?_;rintro e w' ⟨rfl,rfl⟩)
 go_ret
 exact ⟨_,F,rfl,EvV.nil ..,H.out,Chg.refl _ _,fun k hk=>.inl hk⟩
theorem xexec_end (hru:Q.ru=true) (hx:Q.pr.length≤Q.pc) (s:Nat):Calls Tryz.prog 17 #[.pointer (some ⟨kb,0,none⟩),.pointer (some ⟨s,0,none⟩)] w (CSTo W w c sy F kb pb qb S (stopC Q) [evC Q 10 0 0 0]):=by
 have RU:=cruns h.co.own
 rw [hru] at RU
 have HRU:=Lib.hid RU
 have HD:=Lib.hid (dhere_none h.co hx)
 have H:=Lib.hid h
 have ED:=Lib.hid (fun (w':World) (h':CS W w' c sy F S kb pb qb Q) (kd:Int)=>(dend h'.co h'.old kd).mono fun e w' hd=>h'.ofCo hd)
 clear h hru RU hx
 go_enter Tryz.func17,Tryz.ntmps17
 try dsimp only [List.append]
 go_wp2_with (first |(go_at_call 15;refine HRU.out.mono ?_;rintro e w' ⟨rfl,rfl⟩)|(go_at_call 41;refine HD.out.mono ?_;rintro e w1 ⟨rfl,hc1⟩;have C1:=Lib.hid hc1;clear hc1))
 have C2:Chg [] w (w1.alloc (.cells (insc insZ) 33)):=C1.out.alloc _
 refine (ED.out _ (H.out.keep0 C2) 10).mono ?_
 rintro e w4 ⟨v,F',rfl,hd⟩
 go_wp2_with fail
 go_ret
 exact CSTo.from (C2.mono (by simp)) (fun k hk=>.inl hk) ⟨v,F',rfl,hd⟩
theorem ebuffer:Calls Tryz.prog 16 #[.pointer (some ⟨kb,0,none⟩)] w fun e w'=>∃b,e=.returned (.slice (some ⟨b,0,none⟩) Q.es.length Q.es.length)∧w.heap.size≤b∧Chg [] w w'∧w'.heap[b]? =some (.cells (sq Se.enc Q.es []) 112 (0,0)):=by
 have h8:=h.co.ok.h8
 have hb:=h.co.own
 have HA:=Lib.hid (sall_ok h.co.buf)
 clear h
 generalize Q.es=es at *
 go_enter Tryz.func16,Tryz.ntmps16
 go_wp2_with (go_at_call 40;refine HA.out.mono ?_;rintro e w2 ⟨b,rfl,hk,hc,hv⟩;have HK:=Lib.hid hk;have HC:=Lib.hid hc;have HV:=Lib.hid hv;clear hk hc hv)
 go_ret
 exact ⟨b,rfl,HK.out,HC.out,HV.out⟩
variable (hI:Inv c n S cur) (hn:n≤1000000000) (hR:Roomy c S) (hT:Tab W)
include hI hn hR hT
theorem edrain:Calls Tryz.prog 18 #[.pointer (some ⟨kb,0,none⟩),.pointer (some ⟨sy,0,none⟩)] w (CSTo W w c sy F kb pb qb (drainC c S Q).S (drainC c S Q).Q (drainC c S Q).ev):=by
 have h8:=h.co.ok.h8
 have hb:=h.co.own
 have HH:=Lib.hid (shead_ok h.co.buf)
 have H:=Lib.hid h
 unfold drainC
 cases hes:Q.es with
 |nil=>
  rw [hes] at HH
  show Calls _ _ _ _ (CSTo W w c sy F kb pb qb S Q [])
  clear h hI hn hR hT hes
  go_enter Tryz.func18,Tryz.ntmps18
  try dsimp only [List.append]
  go_wp2_with (go_at_call 49;refine HH.out.mono ?_;rintro e w1 ⟨rfl,hc⟩;have C1:=Lib.hid hc;clear hc)
  go_ret
  have C2:Chg [] w (w1.alloc (.cells (sec (hdE [])) 112)):=C1.out.alloc _
  exact ⟨_,F,rfl,EvV.nil ..,H.out.keep0 C2,C2.mono (by simp),fun k hk=>.inl hk⟩
 |cons x rest=>
  rw [hes,show hdE (x::rest)=x from rfl,show hdB (x::rest)=true from rfl] at HH
  have ST:=Lib.hid (fun (w':World) (h':CS W w' c sy F S kb pb qb Q)=>estore h' hI hn hR hT hes)
  have SN:=Lib.hid (fun (w':World) (h':CS W w' c sy F S kb pb qb Q)=>esend h' hI hn hR hT hes)
  have EF:=Lib.hid (fun (w':World) (h':CS W w' c sy F S kb pb qb Q)=>dendFlush h'.co)
  rw [hes,show (x::rest).tail=rest from rfl] at EF
  dsimp only
  clear h hI hn hR hT hes
  by_cases h9:x.kd=9
  ·rw [if_pos h9]
   have k9:(x.kd==9)=true:=by simp [h9]
   have e1:∀(D1 D2:Did13),True:=fun _ _=>trivial
   have eS:(if (storeM c S Q.id x.li x.wo x.va).2.hit=true then (⟨(storeM c S Q.id x.li x.wo x.va).1,{Q with es:=rest},[evC Q 3 x.li x.wo x.va]⟩:Did13) else ⟨(storeM c S Q.id x.li x.wo x.va).1,Q,[]⟩)=⟨(storeM c S Q.id x.li x.wo x.va).1,if (storeM c S Q.id x.li x.wo x.va).2.hit=true then {Q with es:=rest} else Q,if (storeM c S Q.id x.li x.wo x.va).2.hit=true then [evC Q 3 x.li x.wo x.va] else []⟩:=by split<;>rfl
   rw [eS]
   dsimp only
   generalize (if (storeM c S Q.id x.li x.wo x.va).2.hit=true then {Q with es:=rest} else Q)=Q2 at *
   generalize (if (storeM c S Q.id x.li x.wo x.va).2.hit=true then [evC Q 3 x.li x.wo x.va] else [])=l2 at *
   clear h9 eS e1
   go_enter Tryz.func18,Tryz.ntmps18
   try dsimp only [List.append]
   go_wp2_with (go_at_call 49;refine HH.out.mono ?_;rintro e w1 ⟨rfl,hc⟩;have C1:=Lib.hid hc;clear hc)
   have C2:Chg [] w (w1.alloc (.cells (sec x) 112)):=C1.out.alloc _
   refine (ST.out _ (H.out.keep0 C2)).mono ?_
   rintro e w4 ⟨v,F',rfl,hd⟩
   go_wp2_with fail
   go_ret
   exact CSTo.from (C2.mono (by simp)) (fun k hk=>.inl hk) ⟨v,F',rfl,hd⟩
  ·rw [if_neg h9]
   have k9:(x.kd==9)=false:=by simp [h9]
   clear h9
   cases hsn:x.sn
   ·rw [if_neg (by decide)]
    have eS:(if 16≤Q.wt then (⟨S,Q,[]⟩:Did13) else if (flushM c S Q.id x.li (askedK x.kd)).2.e=0 then ⟨(flushM c S Q.id x.li (askedK x.kd)).1,{Q with es:=(if x.kd=14 then sent x::rest else rest),wt:=Q.wt+1},[evC Q 13 x.li 0 0]⟩ else ⟨(flushM c S Q.id x.li (askedK x.kd)).1,Q,[]⟩)=⟨if 16≤Q.wt then S else (flushM c S Q.id x.li (askedK x.kd)).1,if 16≤Q.wt then Q else if (flushM c S Q.id x.li (askedK x.kd)).2.e=0 then {Q with es:=(if x.kd=14 then sent x::rest else rest),wt:=Q.wt+1} else Q,if 16≤Q.wt then [] else if (flushM c S Q.id x.li (askedK x.kd)).2.e=0 then [evC Q 13 x.li 0 0] else []⟩:=by
     split
     ·rfl
     ·split<;>rfl
    rw [eS]
    dsimp only
    generalize (if 16≤Q.wt then S else (flushM c S Q.id x.li (askedK x.kd)).1)=S2 at *
    generalize (if 16≤Q.wt then Q else if (flushM c S Q.id x.li (askedK x.kd)).2.e=0 then {Q with es:=(if x.kd=14 then sent x::rest else rest),wt:=Q.wt+1} else Q)=Q2 at *
    generalize (if 16≤Q.wt then [] else if (flushM c S Q.id x.li (askedK x.kd)).2.e=0 then [evC Q 13 x.li 0 0] else [])=l2 at *
    clear eS
    go_enter Tryz.func18,Tryz.ntmps18
    try dsimp only [List.append]
    go_wp2_with (go_at_call 49;refine HH.out.mono ?_;rintro e w1 ⟨rfl,hc⟩;have C1:=Lib.hid hc;clear hc)
    have C2:Chg [] w (w1.alloc (.cells (sec x) 112)):=C1.out.alloc _
    refine (SN.out _ (H.out.keep0 C2)).mono ?_
    rintro e w4 ⟨v,F',rfl,hd⟩
    go_wp2_with fail
    go_ret
    exact CSTo.from (C2.mono (by simp)) (fun k hk=>.inl hk) ⟨v,F',rfl,hd⟩
   ·rw [if_pos rfl]
    have eS:(if Q.wt=0 then (⟨S,{Q with es:=rest},[]⟩:Did13) else ⟨S,Q,[]⟩)=⟨S,if Q.wt=0 then {Q with es:=rest} else Q,[]⟩:=by split<;>rfl
    rw [eS]
    dsimp only
    generalize (if Q.wt=0 then {Q with es:=rest} else Q)=Q2 at *
    clear eS
    go_enter Tryz.func18,Tryz.ntmps18
    try dsimp only [List.append]
    go_wp2_with (go_at_call 49;refine HH.out.mono ?_;rintro e w1 ⟨rfl,hc⟩;have C1:=Lib.hid hc;clear hc)
    have C2:Chg [] w (w1.alloc (.cells (sec x) 112)):=C1.out.alloc _
    refine (EF.out _ (H.out.keep0 C2)).mono ?_
    rintro e w4 ⟨rfl,hC,hc⟩
    have HC:=Lib.hid hC
    have HCH:=Lib.hid hc
    clear hC hc
    go_wp2_with fail
    go_ret
    exact CSTo.from (C2.mono (by simp)) (fun k hk=>.inl hk) ⟨_,F,rfl,EvV.nil ..,(H.out.keep0 C2).core (HCH.out.mono (by simp)) HC.out,HCH.out.mono (by simp),fun k hk=>.inl hk⟩
end
end
section
set_option maxRecDepth 100000
attribute [local go_sem ↓] append_appS copy_copS clear_clrS make_mkS cell_row frozen_row heap_drew heap_drewN heap_alloc heap_past heap_setCell heap_putRow loadSe storeSe loadIns storeIns loadEv storeEv loadRg storeRg sec_kd sec_li sec_wo sec_va sec_sn insc_op insc_a insc_b insc_c insc_im evc_kd evc_co evc_li evc_wo evc_va coc_id coc_ru coc_reg coc_pr coc_pc coc_qb coc_wt
attribute [local go_sem] rowCell_some rowFrozen_some rowHas_some rowIn_some rowPart_full rowPut_full rowSet_some run_loadS run_storeS run_appS run_copS run_clrS run_mkS loadW_at storeW_at fit_all fit_le one_int one_bool one_pointer one_slice allOne_list putRow_new ne_size1 ne_size2 wideSe wideIns wideEv wideRg sec_size sec_one sec_lit sec_z sec_ne sec_set0 sec_set1 sec_set2 sec_set3 seZ_kd seZ_li seZ_wo seZ_va seZ_sn insc_size insc_one insc_ne insc_lit insc_z evc_size evc_one evc_ne evc_lit evc_z evc_set0 evc_set1 evc_set2 evc_set3 evc_set4 evZ_kd evZ_co evZ_li evZ_wo evZ_va fold_evc coc_setRu coc_size coc_setPc coc_setWt coc_setReg coc_regs vs_size vs_one
attribute [local simp ↓] heap_drew heap_drewN heap_alloc heap_past heap_setCell heap_putRow
attribute [local simp] rowCell_some rowFrozen_some rowHas_some rowIn_some rowPart_full rowPut_full rowSet_some fit_all putRow_new ne_size1 ne_size2 sec_size insc_size evc_size coc_size coc_setRu coc_setPc coc_setWt coc_setReg vs_size fit_le
attribute [local go_sem ↓] heap_drewN
def stcZ:Stc:=⟨0,0,0,0,insZ,false⟩
def stcV:Value:=.agg (Stc.enc stcZ).toArray
theorem stcV_size:stcV.cells.size=10:=rfl
theorem stc_info:(Tryz.prog.info? 169).map (fun i=>(i.zero,i.size,i.bytes))=some (some stcV,10,72):=by kernel_rfl
theorem made_stc (n:Nat):madeCells stcV.cells (n*10)=sq Stc.enc (List.replicate n stcZ) []:=by
 apply Array.ext
 ·rw [sq_size Stc.len]
  simp [madeCells]
 ·intro k h1 h2
  have hk:k<n*10:=by simpa [madeCells] using h1
  obtain ⟨i,j,hj,rfl⟩:∃i j,j<10∧k=i*10+j:=⟨k / 10,k % 10,Nat.mod_lt _ (by omega),by omega⟩
  have hi:i<n:=by omega
  have h3:=sq_cell (enc:=Stc.enc) Stc.len (xs:=List.replicate n stcZ) (i:=i) (a:=stcZ) (by simp [hi]) [] j hj
  rw [Array.getElem?_eq_getElem h2] at h3
  have h5:j=0∨j=1∨j=2∨j=3∨j=4∨j=5∨j=6∨j=7∨j=8∨j=9:=by omega
  have h6:(i*10+j) % 10=j:=by omega
  have h7:stcV.cells.size=10:=stcV_size
  apply Option.some.inj
  rw [h3]
  simp only [madeCells,Array.getElem_map,Array.getElem_range,h7,h6]
  rcases h5 with rfl|rfl|rfl|rfl|rfl|rfl|rfl|rfl|rfl|rfl<;>rfl
theorem run_make_stc (w:World) (n:Nat) (hn:n≤5000):mkR Tryz.prog 95 (.int .i64 n) (.int .i64 n) w=.ok (.slice (some ⟨w.heap.size,0,none⟩) n n) (w.alloc (.cells (sq Stc.enc (List.replicate n stcZ) []) 169)):=by
 obtain ⟨i0,hi0,hz0,hz1,hz2⟩:=info_parts stc_info
 have:=run_make (P:=Tryz.prog) w 95 169 i0 _ Tryz.underlying95 hi0 hz0 .i64 .i64 n n (by omega) (by omega) (by rw [hz2];omega) (by omega)
 simp only [Int.toNat_natCast,hz1] at this
 rw [←made_stc]
 exact this
def prog0 (us:List Int):List (Int×Bool):=us.map fun u=>(u,false)
def fillS (us:List Int) (k:Nat):List Stc:=(prog0 (us.take k)).map stp++List.replicate (us.length-k) stcZ
theorem fillS_zero (us:List Int):fillS us 0=List.replicate us.length stcZ:=by simp [fillS,prog0]
theorem fillS_all (us:List Int):fillS us us.length=(prog0 us).map stp:=by simp [fillS]
theorem fillS_at {us:List Int} {k:Nat} (hk:k<us.length):(fillS us k)[k]? =some stcZ:=by
 unfold fillS
 have e1:((prog0 (us.take k)).map stp).length=k:=by simp [prog0];omega
 rw [List.getElem?_append_right (by omega),e1,Nat.sub_self,List.getElem?_replicate,if_pos (by omega)]
theorem fillS_succ {us:List Int} {k:Nat} {u:Int} (h:us[k]? =some u):(fillS us k).set k {stcZ with u:=u}=fillS us (k+1):=by
 obtain ⟨hk,rfl⟩:=List.getElem?_eq_some_iff.1 h
 unfold fillS
 obtain ⟨m,hm⟩:∃m,us.length-k=m+1:=⟨us.length-k-1,by omega⟩
 have e1:((prog0 (us.take k)).map stp).length=k:=by simp [prog0];omega
 rw [List.set_append_right _ _ (by omega),e1,Nat.sub_self,hm,show us.length-(k+1)=m by omega,List.replicate_succ,List.set_cons_zero,List.take_succ_eq_append_getElem hk]
 unfold prog0
 rw [List.map_append,List.map_append,List.append_assoc]
 rfl
theorem csteps {w:World} {A:Option Addr} {n cap:Nat} {us:List Int} (hs:Sl w 1 A n (us.map (Value.int .u64))) (hn:us.length=n) (h5:n≤5000):Calls Tryz.prog 38 #[.slice A n cap] w fun e w'=>∃b,e=.returned (.slice (some ⟨b,0,none⟩) n n)∧w.heap.size≤b∧Chg [] w w'∧Sts w' b ((prog0 us).map stp):=by
 subst hn
 have hmk:=run_make_stc w us.length h5
 have c1:=(Chg.refl [] w).alloc (.cells (sq Stc.enc (List.replicate us.length stcZ) []) 169)
 have hb1:(w.alloc (.cells (sq Stc.enc (List.replicate us.length stcZ) []) 169)).heap[w.heap.size]? =some (.cells (sq Stc.enc (List.replicate us.length stcZ) []) 169 (0,0)):=by simp
 generalize w.alloc (.cells (sq Stc.enc (List.replicate us.length stcZ) []) 169)=w1 at hmk c1 hb1
 have HB1:=Lib.hid hb1
 have HC1:=Lib.hid c1
 have HS:=Lib.hid hs
 have HL:=Lib.hid h5
 have hl5:(us.length:Int)≤5000:=by omega
 clear hb1 c1 hs h5
 go_enter Tryz.func38,Tryz.ntmps38
 go_wp2_with fail
 generalize hp:w.heap.size=p at HB1
 have HP:=Lib.hid hp
 clear hp
 go_loopw [4,5,11] (fun _ _ i wr=>∃k:Nat,k≤us.length∧i=.int .i64 k∧Chg [p] w1 wr∧wr.heap[p]? =some (.cells (sq Stc.enc (fillS us k) []) 169 (0,0))) (fun _ _ i _=>us.length-(intOf i).toNat)
 case atStart=>exact ⟨0,by omega,rfl,Chg.refl _ _,by rw [fillS_zero];exact HB1.out⟩
 case round=>
  obtain ⟨k,hk,rfl,hc,hb⟩:=hrel
  have HC:=Lib.hid hc
  by_cases hlt:k<us.length
  ·obtain ⟨u,hu⟩:∃u,us[k]? =some u:=⟨us[k],List.getElem?_eq_getElem hlt⟩
   have HU:=Lib.hid hu
   have HLT:=Lib.hid hlt
   have g1:(k:Int)<(us.length:Int):=by omega
   have g0:(0:Int)≤(k:Int):=by omega
   obtain ⟨b0,o0,hA⟩:=HS.out.addr (by omega)
   subst hA
   obtain ⟨cA,tA,fA,hA,hcell⟩:=HS.out.cell hlt
   have hA1:=HC1.out.keep hA (by simp)
   have HNE:=Lib.hid (show b0≠p from by have:=lt_heap hA;have:=HP.out;omega)
   have hAr:=hc.keep hA1 (by simpa using HNE.out)
   rw [List.getElem?_map,hu] at hcell
   simp only [Option.map_some] at hcell
   have hset:=sq_setCell13 Stc.len {stcZ with u:=u} (fillS_at hlt) [] 0 (.int .u64 u) (by omega) rfl 169 (0,0)
   rw [fillS_succ hu] at hset
   have hz:(sq Stc.enc (fillS us k) [])[k*10]? =some (.int .u64 0):=sq_cell Stc.len (fillS_at hlt) [] 0 (by omega)
   rw [Nat.add_zero] at hset
   have HSET:=Lib.hid hset
   have HB:=Lib.hid hb
   have op:=old hb
   have oA:=old hAr
   clear hset hc hlt hu hA hA1
   go_wp2_with fail
   refine ⟨⟨k+1,by have:=HLT.out;omega,by go_num,HC.out.setCell p _ _ (.inl (by simp)),?_⟩,?_⟩
   ·rw [heap_setCell,if_pos rfl,HB.out,HSET.out]
   ·have:=HLT.out
    simp [intOf]
    omega
  ·have:k=us.length:=by omega
   subst this
   go_wp2_with fail
   go_ret
   rw [fillS_all] at hb
   exact ⟨p,rfl,by have:=HP.out;omega,HC1.out.trans' HC.out (by have:=HP.out;simp;omega),hb⟩
def co0 (id:Int) (room:Nat) (us:List Int):Co:=⟨id,true,[0,0,0,0,0,0,0,0],prog0 us,0,room,[],0⟩
theorem co0_ok {id:Int} {room:Nat} {us:List Int} (hi:0≤id∧id<8) (hn:us.length≤4096) (hu:∀u∈us,0≤u∧u<18446744073709551616):CoOk (co0 id room us):=by
 refine ⟨rfl,by show 0≤_;omega,by show (prog0 us).length≤_;simp [prog0];omega,?_,by show 0≤16;omega,hi,⟨?_,?_⟩⟩
 ·intro x hx
  simp only [co0,prog0,List.mem_map] at hx
  obtain ⟨u,h,rfl⟩:=hx
  exact hu u h
 ·intro x hx
  simp only [co0,List.mem_cons,List.not_mem_nil,or_false] at hx
  rcases hx with rfl|rfl|rfl|rfl|rfl|rfl|rfl|rfl<;>exact Int.le_refl _
 ·intro e he
  cases he
theorem coc_zero (w:World):(zeroValue 98).run Tryz.prog w=.ok (.agg #[.int .i64 0,.bool false,.int .u64 0,.int .u64 0,.int .u64 0,.int .u64 0,.int .u64 0,.int .u64 0,.int .u64 0,.int .u64 0,.slice none 0 0,.int .i64 0,.pointer none,.int .i64 0]) w:=by kernel_rfl
theorem cnew {w:World} {A:Option Addr} {n cap:Nat} {us:List Int} (id:Int) (room:Nat) (hs:Sl w 1 A n (us.map (Value.int .u64))) (hn:us.length=n) (h5:n≤4096) (hu:∀u∈us,0≤u∧u<18446744073709551616) (hi:0≤id∧id<8) (h1:1≤room) (h2:room≤16):
 Calls Tryz.prog 13 #[.int .i64 id,.int .i64 room,.slice A n cap] w fun e w'=>∃kb pb qb,e=.returned (.tuple #[.pointer (some ⟨kb,0,none⟩),.int .i64 0])∧w.heap.size≤kb∧w.heap.size≤pb∧w.heap.size≤qb∧Chg [] w w'∧Cor w' kb pb qb (co0 id room us):=by
 have hz:=coc_zero
 have hl5:(n:Int)≤4096:=by omega
 have hi1:=hi.1
 have hi2:=hi.2
 have HS:=Lib.hid hs
 have HN:=Lib.hid hn
 have HI:=Lib.hid (co0_ok (room:=room) hi (by omega) hu)
 have HB:=Lib.hid (snew_buf room w h1 h2)
 have H5:=Lib.hid h5
 clear hs hn hi h5 hu h1 h2
 go_enter Tryz.func13,Tryz.ntmps13
 try dsimp only [List.append]
 go_wp2_with fail
 refine HB.out.mono ?_
 rintro e w1 ⟨qb,rfl,hq,hc,hb⟩
 have HQ:=Lib.hid hq
 have HC1:=Lib.hid hc
 have HB1:=Lib.hid hb
 clear hq hc hb
 go_wp2_with fail
 refine (csteps (HS.out.chg HC1.out (fun _ _=>by simp)) HN.out (by have:=H5.out;omega)).mono ?_
 rintro e w2 ⟨pb,rfl,hp,hc,hst⟩
 have HP:=Lib.hid hp
 have HC2:=Lib.hid hc
 have HST:=Lib.hid hst
 clear hp hc hst
 go_wp2_with fail
 go_ret2
 have hs1:=HC1.out.size
 have hs2:=HC2.out.size
 have hq2:=HB1.out.oldq.lt
 have hp2:=(old HST.out).lt
 have hq:=HQ.out
 have hp:=HP.out
 have e0:(co0 id room us).pr.length=n:=by show (prog0 us).length=n;simp [prog0,HN.out]
 generalize hC:(#[.int .i64 id,.bool true,.int .u64 0,.int .u64 0,.int .u64 0,.int .u64 0,.int .u64 0,.int .u64 0,.int .u64 0,.int .u64 0,.slice (some ⟨pb,0,none⟩) n n,.int .i64 0,.pointer (some ⟨qb,0,none⟩),.int .i64 0]:Array Value)=C
 have hC':C=coc id true [0,0,0,0,0,0,0,0] pb n 0 qb 0:=by rw [←hC];simp [coc]
 have cA:Chg [] w2 (w2.alloc (.cells C 98)):=(Chg.refl [] w2).alloc _
 refine ⟨w2.heap.size,pb,qb,rfl,by omega,by omega,by omega,(HC1.out.trans HC2.out).trans cA,⟨?_,HST.out.keep cA (by simp),(HB1.out.keep HC2.out (by simp)).keep cA (by simp),by omega,by omega,by omega,HI.out⟩⟩
 rw [e0]
 simp [hC',co0]
end
end Go.Proofs.YtcjoinhngdfdmaaGreatDoor
