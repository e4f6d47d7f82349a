/- What a statement of layer 13 needs further: by parts. No condition. -/
import Derived.Test.YtcjoinhngdfdmaaGreatDoorCFl
section
namespace Go.Proofs.YtcjoinhngdfdmaaGreatDoor
open Go.RowKit
set_option linter.unusedVariables false
set_option maxHeartbeats 1000000
set_option maxRecDepth 100000
attribute [local go_sem ↓] append_appS copy_copS clear_clrS make_mkS cell_row frozen_row heap_drew heap_drewN heap_alloc heap_past heap_setCell heap_putRow loadSe storeSe loadIns storeIns loadEv storeEv loadRg storeRg sec_kd sec_li sec_wo sec_va sec_sn insc_op insc_a insc_b insc_c insc_im evc_kd evc_co evc_li evc_wo evc_va coc_id coc_ru coc_reg coc_pr coc_pc coc_qb coc_wt
attribute [local go_sem] rowCell_some rowFrozen_some rowHas_some rowIn_some rowPart_full rowPart_lit rowPut_full rowPut_lit rowSet_some size_putRow run_loadS run_storeS run_appS run_copS run_clrS run_mkS loadW_at storeW_at fit_all fit_le one_int one_bool one_pointer one_slice allOne_list putRow_new ne_size1 ne_size2 ne_size3 ne_size4 wideSe wideIns wideEv wideRg sec_size sec_one sec_lit sec_z sec_ne sec_set0 sec_set1 sec_set2 sec_set3 sec_set4 seZ_kd seZ_li seZ_wo seZ_va seZ_sn fold_sec insc_size insc_one insc_ne insc_lit insc_z fold_insc evc_size evc_one evc_ne evc_lit evc_z evc_set0 evc_set1 evc_set2 evc_set3 evc_set4 evZ_kd evZ_co evZ_li evZ_wo evZ_va fold_evc coc_setRu coc_size coc_one coc_setPc coc_setWt coc_setReg coc_regs coc_regsIn vs_size vs_one
attribute [local simp ↓] heap_drew heap_drewN heap_alloc heap_past heap_setCell heap_putRow
attribute [local simp] rowCell_some rowFrozen_some rowHas_some rowIn_some rowPart_full rowPart_lit rowPut_full rowPut_lit rowSet_some size_putRow fit_all putRow_new ne_size1 ne_size2 ne_size3 ne_size4 sec_size insc_size evc_size coc_size coc_setRu coc_setPc coc_setWt coc_setReg vs_size fit_le
attribute [local go_sem ↓] heap_drewN
theorem casked (kd:Int) (w:World):Calls Tryz.prog 91 #[.int .i64 kd] w fun e w'=>e=.returned (.int .i64 (askedK kd))∧w=w':=by
 unfold askedK
 by_cases h:kd=12
 ·rw [if_pos h]
  subst h
  go_enter Tryz.func91,Tryz.ntmps91
  go_wp2
  go_ret
  exact ⟨rfl,rfl⟩
 ·rw [if_neg h]
  have h1:(kd==12)=false:=by simpa using h
  clear h
  go_enter Tryz.func91,Tryz.ntmps91
  go_wp2
  go_ret
  exact ⟨rfl,rfl⟩
theorem Cor.setWt {w:World} {kb pb qb:Nat} {Q:Co} (h:Cor w kb pb qb Q) {n:Nat} {v:Int} (hv:v=n) (hn:n≤16):Cor (w.setCell ⟨kb,13,none⟩ (.int .i64 v)) kb pb qb {Q with wt:=n}:=by
 subst hv
 have hc:=(Chg.refl [kb] w).setCell kb 13 (.int .i64 n) (.inl (by simp))
 refine ⟨?_,h.steps.keep hc (by simp [h.kp.symm]),h.buf.keep hc (by simp [h.kq.symm]),h.kp,h.kq,h.pq,⟨h.ok.h8,h.ok.pc,h.ok.np,h.ok.pr,hn,h.ok.id,⟨h.ok.pos.rg,h.ok.pos.es⟩⟩⟩
 rw [heap_setCell,if_pos rfl,h.own,rowSet_some,coc_setWt h.ok.h8]
section
variable {W w:World} {c:Cg} {sy n:Nat} {F:List Nat} {S:Mst} {cur:Nat→List Int} {kb pb qb:Nat} {Q:Co} (h:CS W w c sy F S kb pb qb Q) (hI:Inv c n S cur) (hn:n≤1000000000) (hR:Roomy c S) (hT:Tab W) {x:Se} {rest:List Se} (hes:Q.es=x::rest)
include h hI hn hR hT hes
theorem estore:Calls Tryz.prog 50 #[.pointer (some ⟨kb,0,none⟩),.pointer (some ⟨sy,0,none⟩),.agg (sec x)] w (CSTo W w c sy F kb pb qb (storeM c S Q.id x.li x.wo x.va).1 (if (storeM c S Q.id x.li x.wo x.va).2.hit then {Q with es:=rest} else Q) (if (storeM c S Q.id x.li x.wo x.va).2.hit then [evC Q 3 x.li x.wo x.va] else [])):=by
 have hs:(w.alloc (.cells (sec x) 112)).heap[w.heap.size]? =some (.cells (sec x) 112 (0,0)):=by simp
 have HCH:Chg [] w (w.alloc (.cells (sec x) 112)):=(Chg.refl [] w).alloc _
 have HN:=Lib.hid (show w.heap.size≠kb∧w.heap.size∉F∧w.heap.size≠qb from ⟨by have:=h.co.oldk.lt;omega,fun hm=>by have:=h.old _ hm;omega,by have:=h.co.oldq.lt;omega⟩)
 have H1:=Lib.hid (h.keep0 HCH)
 have hb1:=H1.out.co.own
 have h8:=h.co.ok.h8
 have US:=Lib.hid (fun (w':World) (c1:Chg [] (w.alloc (.cells (sec x) 112)) w')=>ustore (H1.out.keep0 c1).ms hI hn hR hT Q.id x.li x.wo x.va)
 have HES:=Lib.hid hes
 have HPE:=Lib.hid (show ∀e∈rest,0≤e.va from fun e he=>h.co.ok.pos.es e (by rw [hes];exact List.mem_cons_of_mem _ he))
 have HC1:=Lib.hid HCH
 clear h hI hn hR hT hes HCH
 generalize hw1:w.alloc (.cells (sec x) 112)=w1 at *
 generalize hz:w.heap.size=p at *
 generalize (storeM c S Q.id x.li x.wo x.va).1=S1 at *
 generalize (storeM c S Q.id x.li x.wo x.va).2.hit=hit at *
 have ok1:=old hb1
 have op1:=old hs
 have n1:¬p=kb:=HN.out.1
 have n2:¬kb=p:=fun e=>HN.out.1 e.symm
 cases hit
 ·show Calls _ _ _ _ (CSTo W w c sy F kb pb qb S1 Q [])
  go_enter Tryz.func50,Tryz.ntmps50
  go_wp2_with fail
  go_region_held3 (fun w'=>w'.heap[kb]? =some (.cells (coc Q.id Q.ru Q.rg pb Q.pr.length Q.pc qb Q.wt) 98 (0,0))∧w'.heap[p]? =some (.cells (sec x) 112 (0,0)))
   (first |exact ⟨hb1,hs⟩|exact ⟨h4.co.own,c4.keep hs HN.out.2.1⟩)
   (first
    |(go_at_call 88;refine (US.out _ ((Chg.refl [] w1).drew)).mono ?_;rintro e w4 ⟨rfl,m4⟩;obtain ⟨F4,h4,c4,k4⟩:=(H1.out.keep0 ((Chg.refl [] w1).drew)).step m4))
  all_goals
   rename World=>w4
   rename _∧_=>hHeld
   have H4:=Lib.hid h4
   have HG4:=Lib.hid (show Chg (kb::pb::qb::F) w w4 from (HC1.out.mono (by simp)).trans (((Chg.refl _ w1).drew).trans (chg_sys c4)))
   have HK4:=Lib.hid (show ∀k∈F4,k∈F∨w.heap.size≤k from fun k hk=>(k4 k hk).imp id (Nat.le_trans HC1.out.size))
   clear hHeld c4 h4 k4 m4 hs hb1
   go_wp2_with fail
   go_ret
   exact CSTo.from HG4.out HK4.out ⟨_,F4,rfl,EvV.nil ..,H4.out,Chg.refl _ _,fun k hk=>.inl hk⟩
 ·show Calls _ _ _ _ (CSTo W w c sy F kb pb qb S1 {Q with es:=rest} [evC Q 3 x.li x.wo x.va])
  go_enter Tryz.func50,Tryz.ntmps50
  go_wp2_with fail
  go_region_held3 (fun w'=>w'.heap[kb]? =some (.cells (coc Q.id Q.ru Q.rg pb Q.pr.length Q.pc qb Q.wt) 98 (0,0))∧w'.heap[p]? =some (.cells (sec x) 112 (0,0)))
   (first |exact ⟨hb1,hs⟩|exact ⟨h4.co.own,c4.keep hs HN.out.2.1⟩)
   (first
    |(go_at_call 88;refine (US.out _ ((Chg.refl [] w1).drew)).mono ?_;rintro e w4 ⟨rfl,m4⟩;obtain ⟨F4,h4,c4,k4⟩:=(H1.out.keep0 ((Chg.refl [] w1).drew)).step m4))
  all_goals
   rename World=>w4
   rename _∧_=>hHeld
   have hb4:=hHeld.1
   have hs4:=hHeld.2
   have H4:=Lib.hid h4
   have HG4:=Lib.hid (show Chg (kb::pb::qb::F) w w4 from (HC1.out.mono (by simp)).trans (((Chg.refl _ w1).drew).trans (chg_sys c4)))
   have HK4:=Lib.hid (show ∀k∈F4,k∈F∨w.heap.size≤k from fun k hk=>(k4 k hk).imp id (Nat.le_trans HC1.out.size))
   clear hHeld c4 h4 k4 m4 hs hb1
   go_wp2_with fail
   refine (spop_ok H4.out.co.buf).mono ?_
   rintro e w5 ⟨rfl,c5,b5⟩
   rw [show Q.es.tail=rest by rw [HES.out];rfl] at b5
   have HC5:=Lib.hid (H4.out.co.entries c5 b5 HPE.out)
   have HG5:=Lib.hid c5
   have hb5:=HC5.out.own
   have hs5:=c5.keep hs4 (by simpa using HN.out.2.2)
   clear c5 b5 hb4 hs4
   go_wp2_with fail
   refine (cevent hb5 3 x.li x.wo x.va).mono ?_
   rintro e w6 ⟨rfl,c6⟩
   have HC6:=Lib.hid c6
   clear c6
   go_wp2_with fail
   go_ret
   have c7:Chg [] w5 (w6.alloc (.cells (evc ⟨3,Q.id,x.li,x.wo,x.va⟩) 45)):=HC6.out.alloc _
   have hk:=H4.out.co.oldk.lt
   have hs:=HC6.out.size
   have hg:=HG5.out.size
   refine CSTo.from HG4.out HK4.out (H4.out.ofCo (CoTo.from (HG5.out.mono (by simp)) ⟨_,rfl,EvV.one (by simp;rfl) (by omega) hs (fun hm=>by have:=H4.out.old _ hm;omega),HC5.out.keep0 c7,c7.mono (by simp)⟩))
theorem esend:Calls Tryz.prog 52 #[.pointer (some ⟨kb,0,none⟩),.pointer (some ⟨sy,0,none⟩),.agg (sec x)] w (CSTo W w c sy F kb pb qb (if 16≤Q.wt then S else (flushM c S Q.id x.li (askedK x.kd)).1) (if 16≤Q.wt then Q else if (flushM c S Q.id x.li (askedK x.kd)).2.e=0 then {Q with es:=(if x.kd=14 then sent x::rest else rest),wt:=Q.wt+1} else Q) (if 16≤Q.wt then [] else if (flushM c S Q.id x.li (askedK x.kd)).2.e=0 then [evC Q 13 x.li 0 0] else [])):=by
 have hs:(w.alloc (.cells (sec x) 112)).heap[w.heap.size]? =some (.cells (sec x) 112 (0,0)):=by simp
 have HCH:Chg [] w (w.alloc (.cells (sec x) 112)):=(Chg.refl [] w).alloc _
 have HN:=Lib.hid (show w.heap.size≠kb∧w.heap.size∉F∧w.heap.size≠qb from ⟨by have:=h.co.oldk.lt;omega,fun hm=>by have:=h.old _ hm;omega,by have:=h.co.oldq.lt;omega⟩)
 have H1:=Lib.hid (h.keep0 HCH)
 have hb1:=H1.out.co.own
 have h8:=h.co.ok.h8
 have US:=Lib.hid (fun (w':World) (c1:Chg [] (w.alloc (.cells (sec x) 112)) w')=>uflush (H1.out.keep0 c1).ms hI hn hR hT Q.id x.li (askedK x.kd))
 have HES:=Lib.hid hes
 have HPE:=Lib.hid (show ∀e∈rest,0≤e.va from fun e he=>h.co.ok.pos.es e (by rw [hes];exact List.mem_cons_of_mem _ he))
 have HPX:=Lib.hid (show 0≤x.va from h.co.ok.pos.es x (by rw [hes];exact List.mem_cons_self))
 have HC1:=Lib.hid HCH
 have hwt:decide (16≤(Q.wt:Int))=decide (16≤Q.wt):=by rw [Bool.eq_iff_iff];simp;omega
 clear h hI hn hR hT hes HCH
 generalize hw1:w.alloc (.cells (sec x) 112)=w1 at *
 generalize hz:w.heap.size=p at *
 generalize (flushM c S Q.id x.li (askedK x.kd)).1=S1 at *
 generalize (flushM c S Q.id x.li (askedK x.kd)).2.e=fe at *
 generalize hwi:(Q.wt:Int)=wi at hb1 hwt
 have HWI:=Lib.hid hwi
 clear hwi
 have ok1:=old hb1
 have op1:=old hs
 have n1:¬p=kb:=HN.out.1
 have n2:¬kb=p:=fun e=>HN.out.1 e.symm
 by_cases h16:16≤Q.wt
 ·rw [if_pos h16,if_pos h16,if_pos h16]
  rw [decide_eq_true h16] at hwt
  clear h16
  go_enter Tryz.func52,Tryz.ntmps52
  try dsimp only [List.append]
  go_wp2_with fail
  go_quiet (fail)
  go_wp2_with fail
  go_ret
  have hc:=HC1.out.drewN nq
  exact ⟨_,F,rfl,EvV.nil ..,H1.out.keep0 ((Chg.refl [] w1).drewN nq),hc.mono (by simp),fun k hk=>.inl hk⟩
 ·rw [if_neg h16,if_neg h16,if_neg h16]
  rw [decide_eq_false h16] at hwt
  have H16:=Lib.hid h16
  clear h16
  by_cases hf:fe=0
  ·subst hf
   rw [if_pos rfl,if_pos rfl]
   generalize hE:(if x.kd=14 then sent x::rest else rest)=es'
   have HE:=Lib.hid hE
   clear hE
   have HW:=Lib.hid (show Q.wt+1≤16 by have:=H16.out;omega)
   have hr1: -9223372036854775808≤wi+1:=by have:=HWI.out;omega
   have hr2:wi+1≤9223372036854775807:=by have:=HW.out;have:=HWI.out;omega
   go_enter Tryz.func52,Tryz.ntmps52
   try dsimp only [List.append]
   go_wp2_with fail
   go_region_held3 (fun w'=>w'.heap[kb]? =some (.cells (coc Q.id Q.ru Q.rg pb Q.pr.length Q.pc qb wi) 98 (0,0))∧w'.heap[p]? =some (.cells (sec x) 112 (0,0)))
    (first |exact ⟨hb1,hs⟩|exact ⟨(by rw [←HWI.out];exact h4.co.own),c4.keep hs HN.out.2.1⟩)
    (first
     |(go_at_call 91;refine (casked x.kd _).mono ?_;rintro e w' ⟨rfl,rfl⟩)
     |(go_at_call 90;refine (US.out _ ((Chg.refl [] w1).drew)).mono ?_;rintro e w4 ⟨rfl,m4⟩;obtain ⟨F4,h4,c4,k4⟩:=(H1.out.keep0 ((Chg.refl [] w1).drew)).step m4))
   all_goals
    rename World=>w4
    rename _∧_=>hHeld
    have hb4:=hHeld.1
    have hs4:=hHeld.2
    have H4:=Lib.hid h4
    have HG4:=Lib.hid (show Chg (kb::pb::qb::F) w w4 from (HC1.out.mono (by simp)).trans (((Chg.refl _ w1).drew).trans (chg_sys c4)))
    have HK4:=Lib.hid (show ∀k∈F4,k∈F∨w.heap.size≤k from fun k hk=>(k4 k hk).imp id (Nat.le_trans HC1.out.size))
    clear hHeld c4 h4 k4 m4 hs hb1
    have HC5:=Lib.hid (H4.out.co.setWt (show wi+1=((Q.wt+1:Nat):Int) by have:=HWI.out;omega) HW.out)
    have HG5:=Lib.hid ((Chg.refl [kb] w4).setCell kb 13 (.int .i64 (wi+1)) (.inl (by simp)))
    have hs5:(w4.setCell ⟨kb,13,none⟩ (.int .i64 (wi+1))).heap[p]? =some (.cells (sec x) 112 (0,0)):=HG5.out.keep hs4 (by simpa using n1)
    have hb5:=HC5.out.own
    have o5:=old hs5
    have ok5:=old hb5
    generalize hw5:w4.setCell ⟨kb,13,none⟩ (.int .i64 (wi+1))=w5 at *
    by_cases h14:x.kd=14
    ·have HE':=HE.out
     rw [if_pos h14] at HE'
     subst HE'
     have hk14:(x.kd==14)=true:=by simp [h14]
     have HSD:=Lib.hid (show sdE Q.es=sent x::rest by rw [HES.out];show (if x.kd=14 then _ else _)=_;rw [if_pos h14])
     clear h14
     go_wp2_with fail
     refine (ssend_ok HC5.out.buf).mono ?_
     rintro e w6 ⟨rfl,c6,b6⟩
     have HSD':=HSD.out
     rw [show ({Q with wt:=Q.wt+1}:Co).es=Q.es from rfl,HSD'] at b6
     have HC6:=Lib.hid (HC5.out.entries c6 b6 (fun e he=>(List.mem_cons.1 he).elim (fun h1=>h1▸HPX.out) (fun h1=>HPE.out e h1)))
     have HG6:=Lib.hid c6
     have hb6:=HC6.out.own
     have hs6:=c6.keep hs5 (by simpa using HN.out.2.2)
     clear c6 b6 hb4 hs4 hb5 hs5 hw5
     go_wp2_with fail
     refine (cevent hb6 13 x.li 0 0).mono ?_
     rintro e w7 ⟨rfl,c7⟩
     have HC7:=Lib.hid c7
     clear c7
     go_wp2_with fail
     go_ret
     have c8:Chg [] w6 (w7.alloc (.cells (evc ⟨13,Q.id,x.li,0,0⟩) 45)):=HC7.out.alloc _
     have hk:=H4.out.co.oldk.lt
     have hsz:=HC7.out.size
     have hg:=HG6.out.size
     have hg5:=HG5.out.size
     refine CSTo.from HG4.out HK4.out (H4.out.ofCo (CoTo.from ((HG5.out.mono (by simp)).trans (HG6.out.mono (by simp))) ⟨_,rfl,EvV.one (by simp;rfl) (by omega) hsz (fun hm=>by have:=H4.out.old _ hm;omega),HC6.out.keep0 c8,c8.mono (by simp)⟩))
    ·have HE':=HE.out
     rw [if_neg h14] at HE'
     subst HE'
     have hk14:(x.kd==14)=false:=by simp [h14]
     have HSD:=Lib.hid (show Q.es.tail=rest by rw [HES.out];rfl)
     clear h14
     go_wp2_with fail
     refine (spop_ok HC5.out.buf).mono ?_
     rintro e w6 ⟨rfl,c6,b6⟩
     have HSD':=HSD.out
     rw [show ({Q with wt:=Q.wt+1}:Co).es=Q.es from rfl,HSD'] at b6
     have HC6:=Lib.hid (HC5.out.entries c6 b6 HPE.out)
     have HG6:=Lib.hid c6
     have hb6:=HC6.out.own
     have hs6:=c6.keep hs5 (by simpa using HN.out.2.2)
     clear c6 b6 hb4 hs4 hb5 hs5 hw5
     go_wp2_with fail
     refine (cevent hb6 13 x.li 0 0).mono ?_
     rintro e w7 ⟨rfl,c7⟩
     have HC7:=Lib.hid c7
     clear c7
     go_wp2_with fail
     go_ret
     have c8:Chg [] w6 (w7.alloc (.cells (evc ⟨13,Q.id,x.li,0,0⟩) 45)):=HC7.out.alloc _
     have hk:=H4.out.co.oldk.lt
     have hsz:=HC7.out.size
     have hg:=HG6.out.size
     have hg5:=HG5.out.size
     refine CSTo.from HG4.out HK4.out (H4.out.ofCo (CoTo.from ((HG5.out.mono (by simp)).trans (HG6.out.mono (by simp))) ⟨_,rfl,EvV.one (by simp;rfl) (by omega) hsz (fun hm=>by have:=H4.out.old _ hm;omega),HC6.out.keep0 c8,c8.mono (by simp)⟩))
  ·have hfe:(fe !=0)=true:=by simpa using hf
   rw [if_neg hf,if_neg hf]
   clear hf
   go_enter Tryz.func52,Tryz.ntmps52
   try dsimp only [List.append]
   go_wp2_with fail
   go_region_held3 (fun w'=>w'.heap[kb]? =some (.cells (coc Q.id Q.ru Q.rg pb Q.pr.length Q.pc qb wi) 98 (0,0))∧w'.heap[p]? =some (.cells (sec x) 112 (0,0)))
    (first |exact ⟨hb1,hs⟩|exact ⟨(by rw [←HWI.out];exact h4.co.own),c4.keep hs HN.out.2.1⟩)
    (first
     |(go_at_call 91;refine (casked x.kd _).mono ?_;rintro e w' ⟨rfl,rfl⟩)
     |(go_at_call 90;refine (US.out _ ((Chg.refl [] w1).drew)).mono ?_;rintro e w4 ⟨rfl,m4⟩;obtain ⟨F4,h4,c4,k4⟩:=(H1.out.keep0 ((Chg.refl [] w1).drew)).step m4))
   all_goals
    rename World=>w4
    rename _∧_=>hHeld
    have hb4:=hHeld.1
    have hs4:=hHeld.2
    have H4:=Lib.hid h4
    have HG4:=Lib.hid (show Chg (kb::pb::qb::F) w w4 from (HC1.out.mono (by simp)).trans (((Chg.refl _ w1).drew).trans (chg_sys c4)))
    have HK4:=Lib.hid (show ∀k∈F4,k∈F∨w.heap.size≤k from fun k hk=>(k4 k hk).imp id (Nat.le_trans HC1.out.size))
    clear hHeld c4 h4 k4 m4 hs hb1
    go_wp2_with fail
    go_ret
    exact CSTo.from HG4.out HK4.out ⟨_,F4,rfl,EvV.nil ..,H4.out,Chg.refl _ _,fun k hk=>.inl hk⟩
end
end Go.Proofs.YtcjoinhngdfdmaaGreatDoor
end
section
namespace Go.Proofs.YtcjoinhngdfdmaaGreatDoor
open Go.RowKit
set_option linter.unusedVariables false
set_option maxHeartbeats 1000000
set_option maxRecDepth 100000
attribute [local go_sem ↓] append_appS copy_copS clear_clrS make_mkS cell_row frozen_row heap_drew heap_drewN heap_alloc heap_past heap_setCell heap_putRow loadSe storeSe loadIns storeIns loadEv storeEv loadRg storeRg sec_kd sec_li sec_wo sec_va sec_sn insc_op insc_a insc_b insc_c insc_im evc_kd evc_co evc_li evc_wo evc_va coc_id coc_ru coc_reg coc_pr coc_pc coc_qb coc_wt
attribute [local go_sem] rowCell_some rowFrozen_some rowHas_some rowIn_some rowPart_full rowPart_lit rowPut_full rowPut_lit rowSet_some size_putRow run_loadS run_storeS run_appS run_copS run_clrS run_mkS loadW_at storeW_at fit_all fit_le one_int one_bool one_pointer one_slice allOne_list putRow_new ne_size1 ne_size2 ne_size3 ne_size4 wideSe wideIns wideEv wideRg sec_size sec_one sec_lit sec_z sec_ne sec_set0 sec_set1 sec_set2 sec_set3 sec_set4 seZ_kd seZ_li seZ_wo seZ_va seZ_sn fold_sec insc_size insc_one insc_ne insc_lit insc_z fold_insc evc_size evc_one evc_ne evc_lit evc_z evc_set0 evc_set1 evc_set2 evc_set3 evc_set4 evZ_kd evZ_co evZ_li evZ_wo evZ_va fold_evc coc_setRu coc_size coc_one coc_setPc coc_setWt coc_setReg coc_regs coc_regsIn vs_size vs_one
attribute [local simp ↓] heap_drew heap_drewN heap_alloc heap_past heap_setCell heap_putRow
attribute [local simp] rowCell_some rowFrozen_some rowHas_some rowIn_some rowPart_full rowPart_lit rowPut_full rowPut_lit rowSet_some size_putRow fit_all putRow_new ne_size1 ne_size2 ne_size3 ne_size4 sec_size insc_size evc_size coc_size coc_setRu coc_setPc coc_setWt coc_setReg vs_size fit_le
attribute [local go_sem ↓] heap_drewN
section
variable {W w:World} {c:Cg} {sy n:Nat} {F:List Nat} {S:Mst} {cur:Nat→List Int} {kb pb qb:Nat} {Q:Co} (h:CS W w c sy F S kb pb qb Q)
include h
variable (hI:Inv c n S cur) (hn:n≤1000000000) (hR:Roomy c S) (hT:Tab W)
include hI hn hR hT
theorem edrain:Calls Tryz.prog 18 #[.pointer (some ⟨kb,0,none⟩),.pointer (some ⟨sy,0,none⟩)] w (CSTo W w c sy F kb pb qb (drainC c S Q).S (drainC c S Q).Q (drainC c S Q).ev):=by
 have h8:=h.co.ok.h8
 have hb:=h.co.own
 have HH:=Lib.hid (shead_ok h.co.buf)
 have H:=Lib.hid h
 unfold drainC
 cases hes:Q.es with
 |nil=>
  rw [hes] at HH
  show Calls _ _ _ _ (CSTo W w c sy F kb pb qb S Q [])
  clear h hI hn hR hT hes
  go_enter Tryz.func18,Tryz.ntmps18
  try dsimp only [List.append]
  go_wp2_with (go_at_call 49;refine HH.out.mono ?_;rintro e w1 ⟨rfl,hc⟩;have C1:=Lib.hid hc;clear hc)
  go_ret
  have C2:Chg [] w (w1.alloc (.cells (sec (hdE [])) 112)):=C1.out.alloc _
  exact ⟨_,F,rfl,EvV.nil ..,H.out.keep0 C2,C2.mono (by simp),fun k hk=>.inl hk⟩
 |cons x rest=>
  rw [hes,show hdE (x::rest)=x from rfl,show hdB (x::rest)=true from rfl] at HH
  have ST:=Lib.hid (fun (w':World) (h':CS W w' c sy F S kb pb qb Q)=>estore h' hI hn hR hT hes)
  have SN:=Lib.hid (fun (w':World) (h':CS W w' c sy F S kb pb qb Q)=>esend h' hI hn hR hT hes)
  have EF:=Lib.hid (fun (w':World) (h':CS W w' c sy F S kb pb qb Q)=>dendFlush h'.co)
  rw [hes,show (x::rest).tail=rest from rfl] at EF
  dsimp only
  clear h hI hn hR hT hes
  by_cases h9:x.kd=9
  ·rw [if_pos h9]
   have k9:(x.kd==9)=true:=by simp [h9]
   have e1:∀(D1 D2:Did13),True:=fun _ _=>trivial
   have eS:(if (storeM c S Q.id x.li x.wo x.va).2.hit=true then (⟨(storeM c S Q.id x.li x.wo x.va).1,{Q with es:=rest},[evC Q 3 x.li x.wo x.va]⟩:Did13) else ⟨(storeM c S Q.id x.li x.wo x.va).1,Q,[]⟩)=⟨(storeM c S Q.id x.li x.wo x.va).1,if (storeM c S Q.id x.li x.wo x.va).2.hit=true then {Q with es:=rest} else Q,if (storeM c S Q.id x.li x.wo x.va).2.hit=true then [evC Q 3 x.li x.wo x.va] else []⟩:=by split<;>rfl
   rw [eS]
   dsimp only
   generalize (if (storeM c S Q.id x.li x.wo x.va).2.hit=true then {Q with es:=rest} else Q)=Q2 at *
   generalize (if (storeM c S Q.id x.li x.wo x.va).2.hit=true then [evC Q 3 x.li x.wo x.va] else [])=l2 at *
   clear h9 eS e1
   go_enter Tryz.func18,Tryz.ntmps18
   try dsimp only [List.append]
   go_wp2_with (go_at_call 49;refine HH.out.mono ?_;rintro e w1 ⟨rfl,hc⟩;have C1:=Lib.hid hc;clear hc)
   have C2:Chg [] w (w1.alloc (.cells (sec x) 112)):=C1.out.alloc _
   refine (ST.out _ (H.out.keep0 C2)).mono ?_
   rintro e w4 ⟨v,F',rfl,hd⟩
   go_wp2_with fail
   go_ret
   exact CSTo.from (C2.mono (by simp)) (fun k hk=>.inl hk) ⟨v,F',rfl,hd⟩
  ·rw [if_neg h9]
   have k9:(x.kd==9)=false:=by simp [h9]
   clear h9
   cases hsn:x.sn
   ·rw [if_neg (by decide)]
    have eS:(if 16≤Q.wt then (⟨S,Q,[]⟩:Did13) else if (flushM c S Q.id x.li (askedK x.kd)).2.e=0 then ⟨(flushM c S Q.id x.li (askedK x.kd)).1,{Q with es:=(if x.kd=14 then sent x::rest else rest),wt:=Q.wt+1},[evC Q 13 x.li 0 0]⟩ else ⟨(flushM c S Q.id x.li (askedK x.kd)).1,Q,[]⟩)=⟨if 16≤Q.wt then S else (flushM c S Q.id x.li (askedK x.kd)).1,if 16≤Q.wt then Q else if (flushM c S Q.id x.li (askedK x.kd)).2.e=0 then {Q with es:=(if x.kd=14 then sent x::rest else rest),wt:=Q.wt+1} else Q,if 16≤Q.wt then [] else if (flushM c S Q.id x.li (askedK x.kd)).2.e=0 then [evC Q 13 x.li 0 0] else []⟩:=by
     split
     ·rfl
     ·split<;>rfl
    rw [eS]
    dsimp only
    generalize (if 16≤Q.wt then S else (flushM c S Q.id x.li (askedK x.kd)).1)=S2 at *
    generalize (if 16≤Q.wt then Q else if (flushM c S Q.id x.li (askedK x.kd)).2.e=0 then {Q with es:=(if x.kd=14 then sent x::rest else rest),wt:=Q.wt+1} else Q)=Q2 at *
    generalize (if 16≤Q.wt then [] else if (flushM c S Q.id x.li (askedK x.kd)).2.e=0 then [evC Q 13 x.li 0 0] else [])=l2 at *
    clear eS
    go_enter Tryz.func18,Tryz.ntmps18
    try dsimp only [List.append]
    go_wp2_with (go_at_call 49;refine HH.out.mono ?_;rintro e w1 ⟨rfl,hc⟩;have C1:=Lib.hid hc;clear hc)
    have C2:Chg [] w (w1.alloc (.cells (sec x) 112)):=C1.out.alloc _
    refine (SN.out _ (H.out.keep0 C2)).mono ?_
    rintro e w4 ⟨v,F',rfl,hd⟩
    go_wp2_with fail
    go_ret
    exact CSTo.from (C2.mono (by simp)) (fun k hk=>.inl hk) ⟨v,F',rfl,hd⟩
   ·rw [if_pos rfl]
    have eS:(if Q.wt=0 then (⟨S,{Q with es:=rest},[]⟩:Did13) else ⟨S,Q,[]⟩)=⟨S,if Q.wt=0 then {Q with es:=rest} else Q,[]⟩:=by split<;>rfl
    rw [eS]
    dsimp only
    generalize (if Q.wt=0 then {Q with es:=rest} else Q)=Q2 at *
    clear eS
    go_enter Tryz.func18,Tryz.ntmps18
    try dsimp only [List.append]
    go_wp2_with (go_at_call 49;refine HH.out.mono ?_;rintro e w1 ⟨rfl,hc⟩;have C1:=Lib.hid hc;clear hc)
    have C2:Chg [] w (w1.alloc (.cells (sec x) 112)):=C1.out.alloc _
    refine (EF.out _ (H.out.keep0 C2)).mono ?_
    rintro e w4 ⟨rfl,hC,hc⟩
    have HC:=Lib.hid hC
    have HCH:=Lib.hid hc
    clear hC hc
    go_wp2_with fail
    go_ret
    exact CSTo.from (C2.mono (by simp)) (fun k hk=>.inl hk) ⟨_,F,rfl,EvV.nil ..,(H.out.keep0 C2).core (HCH.out.mono (by simp)) HC.out,HCH.out.mono (by simp),fun k hk=>.inl hk⟩
end
end Go.Proofs.YtcjoinhngdfdmaaGreatDoor
end
