/- What a statement of layer 13 needs further: by parts. No condition. -/
import Derived.Test.YtcjoinhngdfdmaaGreatDoorCFm
section
namespace Go.Proofs.YtcjoinhngdfdmaaGreatDoor
open Go.RowKit
set_option linter.unusedVariables false
set_option maxHeartbeats 1000000
set_option maxRecDepth 100000
attribute [local go_sem ↓] append_appS copy_copS clear_clrS make_mkS cell_row frozen_row heap_drew heap_drewN heap_alloc heap_past heap_setCell heap_putRow loadSe storeSe loadIns storeIns loadEv storeEv loadRg storeRg sec_kd sec_li sec_wo sec_va sec_sn insc_op insc_a insc_b insc_c insc_im evc_kd evc_co evc_li evc_wo evc_va coc_id coc_ru coc_reg coc_pr coc_pc coc_qb coc_wt
attribute [local go_sem] rowCell_some rowFrozen_some rowHas_some rowIn_some rowPart_full rowPart_lit rowPut_full rowPut_lit rowSet_some size_putRow run_loadS run_storeS run_appS run_copS run_clrS run_mkS loadW_at storeW_at fit_all fit_le one_int one_bool one_pointer one_slice allOne_list putRow_new ne_size1 ne_size2 ne_size3 ne_size4 wideSe wideIns wideEv wideRg sec_size sec_one sec_lit sec_z sec_ne sec_set0 sec_set1 sec_set2 sec_set3 sec_set4 seZ_kd seZ_li seZ_wo seZ_va seZ_sn fold_sec insc_size insc_one insc_ne insc_lit insc_z fold_insc evc_size evc_one evc_ne evc_lit evc_z evc_set0 evc_set1 evc_set2 evc_set3 evc_set4 evZ_kd evZ_co evZ_li evZ_wo evZ_va fold_evc coc_setRu coc_size coc_one coc_setPc coc_setWt coc_setReg coc_regs coc_regsIn vs_size vs_one
attribute [local simp ↓] heap_drew heap_drewN heap_alloc heap_past heap_setCell heap_putRow
attribute [local simp] rowCell_some rowFrozen_some rowHas_some rowIn_some rowPart_full rowPart_lit rowPut_full rowPut_lit rowSet_some size_putRow fit_all putRow_new ne_size1 ne_size2 ne_size3 ne_size4 sec_size insc_size evc_size coc_size coc_setRu coc_setPc coc_setWt coc_setReg vs_size fit_le
attribute [local go_sem ↓] heap_drewN
def fI (i:Nat):Ins:=⟨9,0,0,0,((192+8*(i % 8):Nat):Int)⟩
def fis (room:Nat):List Ins:=(List.range (room+2)).map fI
def fQ (room:Nat):Nat→Co
 |0=>co0 0 room ((fis room).map codeI)
 |i+1=>(execC kc kS0 (fQ room i)).Q
theorem fcase {room:Nat} (h1:1≤room) (h8:room≤8):room=1∨room=2∨room=3∨room=4∨room=5∨room=6∨room=7∨room=8:=by omega
theorem fcase' {i:Nat} (h8:i<8):i=0∨i=1∨i=2∨i=3∨i=4∨i=5∨i=6∨i=7:=by omega
theorem fstep {room i:Nat} (h1:1≤room) (h8:room≤8) (hi:i<room):execC kc kS0 (fQ room i)=⟨kS0,fQ room (i+1),[⟨12,0,3,((i % 8:Nat):Int),0⟩]⟩:=by
 rcases fcase h1 h8 with rfl|rfl|rfl|rfl|rfl|rfl|rfl|rfl<;>rcases fcase' (Nat.lt_of_lt_of_le hi h8) with rfl|rfl|rfl|rfl|rfl|rfl|rfl|rfl<;>first |(exfalso;omega)|rfl
theorem fcase5 {k:Nat} (h:k<5):k=0∨k=1∨k=2∨k=3∨k=4:=by omega
theorem ffull {room k:Nat} (h1:1≤room) (h8:room≤8) (hk:k<5):execC kc kS0 (fQ room (room+k))=⟨kS0,fQ room (room+k+1),[]⟩:=by
 rcases fcase h1 h8 with rfl|rfl|rfl|rfl|rfl|rfl|rfl|rfl<;>rcases fcase5 hk with rfl|rfl|rfl|rfl|rfl<;>rfl
theorem flen {room k:Nat} (h1:1≤room) (h8:room≤8) (hk:k<5):(fQ room (room+k)).es.length=room∧(fQ room (room+k)).pc=room:=by
 rcases fcase h1 h8 with rfl|rfl|rfl|rfl|rfl|rfl|rfl|rfl<;>rcases fcase5 hk with rfl|rfl|rfl|rfl|rfl<;>exact ⟨rfl,rfl⟩
def fP (room k:Nat):Nat→Mst×Co
 |0=>(kS0,fQ room (room+k))
 |j+1=>((hearM kc (upM kc (drainC kc (fP room k j).1 (fP room k j).2).S 0).1 0).1,(drainC kc (fP room k j).1 (fP room k j).2).Q)
theorem fdrain {room k:Nat} (h1:1≤room) (h8:room≤8) (hk:k<5):(fP room k 1).2.es.length=room∧(fP room k 2).2.es.length=room-1:=by
 rcases fcase h1 h8 with rfl|rfl|rfl|rfl|rfl|rfl|rfl|rfl<;>rcases fcase5 hk with rfl|rfl|rfl|rfl|rfl<;>exact ⟨rfl,rfl⟩
theorem fend {room k:Nat} (h1:1≤room) (h8:room≤8) (hk:k<5):(execC kc (fP room k 2).1 (fP room k 2).2).ev=[⟨12,0,3,((room % 8:Nat):Int),0⟩]∧(execC kc (fP room k 2).1 (fP room k 2).2).Q.pc=room+1∧(execC kc (fP room k 2).1 (fP room k 2).2).Q.es.length=room:=by
 rcases fcase h1 h8 with rfl|rfl|rfl|rfl|rfl|rfl|rfl|rfl<;>rcases fcase5 hk with rfl|rfl|rfl|rfl|rfl<;>exact ⟨rfl,rfl,rfl⟩
theorem fgood {room:Nat}:∀i∈fis room,goodI i=true:=by
 intro i hi
 simp only [fis,List.mem_map,List.mem_range] at hi
 obtain ⟨x,_,rfl⟩:=hi
 unfold fI
 have h:x % 8<8:=Nat.mod_lt _ (by omega)
 generalize x % 8=m at *
 rcases fcase' h with rfl|rfl|rfl|rfl|rfl|rfl|rfl|rfl<;>decide
theorem fword {room:Nat}:∀u∈(fis room).map codeI,0≤u∧u<18446744073709551616:=by
 intro u hu
 simp only [fis,List.mem_map,List.mem_range] at hu
 obtain ⟨i,⟨x,_,rfl⟩,rfl⟩:=hu
 unfold fI
 have h:x % 8<8:=Nat.mod_lt _ (by omega)
 generalize x % 8=m at *
 rcases fcase' h with rfl|rfl|rfl|rfl|rfl|rfl|rfl|rfl<;>decide
theorem fno1 {room i:Nat} (h1:1≤room) (h8:room≤8) (hi:i<room):noAlu (fQ room i):=by
 rcases fcase h1 h8 with rfl|rfl|rfl|rfl|rfl|rfl|rfl|rfl<;>rcases fcase' (Nat.lt_of_lt_of_le hi h8) with rfl|rfl|rfl|rfl|rfl|rfl|rfl|rfl<;>first |(exfalso;omega)|exact noAlu_at rfl (.inr (by decide))
theorem fno2 {room k:Nat} (h1:1≤room) (h8:room≤8) (hk:k<5):noAlu (fQ room (room+k)):=by
 rcases fcase h1 h8 with rfl|rfl|rfl|rfl|rfl|rfl|rfl|rfl<;>rcases fcase5 hk with rfl|rfl|rfl|rfl|rfl<;>exact noAlu_at rfl (.inr (by decide))
theorem fno3 {room k:Nat} (h1:1≤room) (h8:room≤8) (hk:k<5):noAlu (fP room k 2).2:=by
 rcases fcase h1 h8 with rfl|rfl|rfl|rfl|rfl|rfl|rfl|rfl<;>rcases fcase5 hk with rfl|rfl|rfl|rfl|rfl<;>exact noAlu_at rfl (.inr (by decide))
theorem flen' {room k:Nat} (h1:1≤room) (h8:room≤8) (hk:k<5):(fQ room (room+k+1)).es.length=room∧((fQ room (room+k+1)).pc:Int)=room:=by
 rcases fcase h1 h8 with rfl|rfl|rfl|rfl|rfl|rfl|rfl|rfl<;>rcases fcase5 hk with rfl|rfl|rfl|rfl|rfl<;>exact ⟨rfl,rfl⟩
theorem fbuf {room k j:Nat} (h1:1≤room) (h8:room≤8) (hk:k<5) (hj:j≤2):(fP room k j).2.es.length=if j<2 then room else room-1:=by
 rcases (show j=0∨j=1∨j=2 by omega) with rfl|rfl|rfl
 ·exact (flen h1 h8 hk).1
 ·exact (fdrain h1 h8 hk).1
 ·exact (fdrain h1 h8 hk).2
end Go.Proofs.YtcjoinhngdfdmaaGreatDoor
end
section
namespace Go.Proofs.YtcjoinhngdfdmaaGreatDoor
open Go.RowKit
set_option linter.unusedVariables false
set_option maxHeartbeats 1000000
set_option maxRecDepth 100000
attribute [local go_sem ↓] append_appS copy_copS clear_clrS make_mkS cell_row frozen_row heap_drew heap_drewN heap_alloc heap_past heap_setCell heap_putRow loadSe storeSe loadIns storeIns loadEv storeEv loadRg storeRg sec_kd sec_li sec_wo sec_va sec_sn insc_op insc_a insc_b insc_c insc_im evc_kd evc_co evc_li evc_wo evc_va coc_id coc_ru coc_reg coc_pr coc_pc coc_qb coc_wt
attribute [local go_sem] rowCell_some rowFrozen_some rowHas_some rowIn_some rowPart_full rowPart_lit rowPut_full rowPut_lit rowSet_some size_putRow run_loadS run_storeS run_appS run_copS run_clrS run_mkS loadW_at storeW_at fit_all fit_le one_int one_bool one_pointer one_slice allOne_list putRow_new ne_size1 ne_size2 ne_size3 ne_size4 wideSe wideIns wideEv wideRg sec_size sec_one sec_lit sec_z sec_ne sec_set0 sec_set1 sec_set2 sec_set3 sec_set4 seZ_kd seZ_li seZ_wo seZ_va seZ_sn fold_sec insc_size insc_one insc_ne insc_lit insc_z fold_insc evc_size evc_one evc_ne evc_lit evc_z evc_set0 evc_set1 evc_set2 evc_set3 evc_set4 evZ_kd evZ_co evZ_li evZ_wo evZ_va fold_evc coc_setRu coc_size coc_one coc_setPc coc_setWt coc_setReg coc_regs coc_regsIn vs_size vs_one
attribute [local simp ↓] heap_drew heap_drewN heap_alloc heap_past heap_setCell heap_putRow
attribute [local simp] rowCell_some rowFrozen_some rowHas_some rowIn_some rowPart_full rowPart_lit rowPut_full rowPut_lit rowSet_some size_putRow fit_all putRow_new ne_size1 ne_size2 ne_size3 ne_size4 sec_size insc_size evc_size coc_size coc_setRu coc_setPc coc_setWt coc_setReg vs_size fit_le
attribute [local go_sem ↓] heap_drewN
attribute [local go_sem] insc_set0 insc_set1 insc_set2 insc_set3 insc_set4 insZ_op insZ_a insZ_b insZ_c insZ_im
attribute [local go_sem ↓] evr_kd evr_li evr_va
attribute [local go_sem] evr_fit
theorem insV_one:∀v∈(Value.agg (insc insZ)).cells,v.oneCell'=true:=by intro v hv;simp [Value.cells,insc,Ins.enc,insZ] at hv;rcases hv with rfl|rfl|rfl|rfl|rfl<;>rfl
theorem ins_info:(Tryz.prog.info? 33).map (fun i=>(i.zero,i.size,i.bytes))=some (some (.agg (insc insZ)),5,40):=by kernel_rfl
theorem eltIns:Elt Tryz.prog 31 33 5 40 (.agg (insc insZ)) Ins.enc where
 slice:=Tryz.underlying31
 info:=ins_info
 zero:=by rfl
 zone:=insV_one
 pos:=by omega
 len:=Ins.len
 one:=Ins.one
set_option maxHeartbeats 2000000 in
theorem cfull (W:World) (hT:Tabs W) (n more:Nat) (hn:n<256) (hm:more<256):Calls Tryz.prog 9 #[.int .u8 n,.int .u8 more] W fun e w'=>e=.returned (.bool true)∧Chg [] W w':=by
 have HT:=Lib.hid hT
 have HQ:=Lib.hid (show Old W 1 from hT.1.elim fun _ h=>h.elim fun _ h=>old h)
 clear hT
 obtain ⟨room,hroom⟩:∃room:Nat,1+(n:Int) % 8=(room:Int):=⟨1+n % 8,by omega⟩
 have h1:1≤room:=by omega
 have h8:room≤8:=by omega
 have H18:=Lib.hid (And.intro h1 h8)
 have hr0:(room:Int)≤8:=by omega
 obtain ⟨k,hk⟩:∃k:Nat,(more:Int) % 5=(k:Int):=⟨more % 5,by omega⟩
 have HK:=Lib.hid (show k<5 by omega)
 have hk5:(k:Int)<5:=by omega
 clear h1 h8
 go_enter Tryz.func9,Tryz.ntmps9
 try dsimp only [List.append]
 go_wp2_with fail
 go_loopw [6,7] (fun p i wr=>∃(j be cap:Nat) (A:Option Addr),j≤room+2∧i=.int .i64 j∧p=.slice A j cap∧Vec 5 33 Ins.enc wr 1 be A cap ((List.range j).map fI)∧(be=1∨W.heap.size≤be)∧Chg [] W wr) (fun _ i _=>room+2-(intOf i).toNat)
 case atStart=>exact ⟨0,_,0,none,by omega,rfl,rfl,Vec.nil ..,.inl rfl,Chg.refl _ _⟩
 case round=>
  obtain ⟨j,be,cap,A,hj,rfl,rfl,hv,hbe,hc⟩:=hrel
  have HV:=Lib.hid hv
  have HBE:=Lib.hid hbe
  have HC:=Lib.hid hc
  clear hv hbe hc
  by_cases hlt:j<room+2
  ·have g1:(j:Int)<(room:Int)+2:=by omega
   have HLT:=Lib.hid hlt
   have gj:(j:Int)≤10:=by omega
   clear hlt hj
   go_upto_region 6 with (fail)
   go_step
   iterate 17 (first |go_values|go_skip|go_guarded|go_step)
   go_at_K
   go_step
   go_step
   have hfi:(⟨9,0,0,0,192+8*((j:Int) % 8)⟩:Ins)=fI j:=by unfold fI;congr 1
   refine wp_value (v:=.slice (some ⟨wr.heap.size,0,none⟩) 1 1) (w':=wr.alloc (.cells (cat Ins.enc [⟨9,0,0,0,192+8*((j:Int) % 8)⟩]).toArray 33)) (by kernel_rfl) ?_
   rw [hfi]
   have c2:Chg [] wr (wr.alloc (.cells (cat Ins.enc [fI j]).toArray 33)):=(Chg.refl [] wr).alloc _
   have hb2:(wr.alloc (.cells (cat Ins.enc [fI j]).toArray 33)).heap[wr.heap.size]? =some (.cells (cat Ins.enc [fI j]).toArray 33 (0,0)):=by simp
   have hsl:Sl (wr.alloc (.cells (cat Ins.enc [fI j]).toArray 33)) 5 (some ⟨wr.heap.size,0,none⟩) 1 (cat Ins.enc [fI j]):=⟨rfl,.inr ⟨wr.heap.size,0,_,_,(0,0),rfl,hb2,rfl⟩⟩
   have htk:((List.range j).map fI).length=j:=by simp
   obtain ⟨be',cp,A2,w2,happ,hv2,hbe2,hc2⟩:=Vec.acc (ty:=31) eltIns (w0:=W) (HC.out.trans c2) (HV.out.keep c2 (by simp)) HBE.out HQ.out hsl (c:=1) rfl (by rw [htk];have:=HLT.out;omega) (by rw [htk];have:=HLT.out;simp only [maxLen];omega)
   rw [htk] at happ
   have HV2:=Lib.hid hv2
   have HBE2:=Lib.hid hbe2
   have HC2:=Lib.hid hc2
   clear hv2 hbe2 hc2 hsl hb2 c2 htk hfi
   generalize (wr.alloc (.cells (cat Ins.enc [fI j]).toArray 33))=w1 at *
   go_at_K
   go_wp2_with fail
   refine ⟨⟨j+1,be',cp,A2,by have:=HLT.out;omega,by go_num,rfl,?_,HBE2.out,HC2.out⟩,?_⟩
   ·have:=HV2.out
    rw [List.range_succ,List.map_append]
    exact this
   ·have:=HLT.out
    simp [intOf]
    omega
  ·have:j=room+2:=by omega
   subst this
   clear hlt hj
   go_wp2_with fail
   refine (kplain _).mono ?_
   rintro e w0 ⟨rfl,c0⟩
   have C0:=Lib.hid (HC.out.trans c0)
   have HV0:=Lib.hid (HV.out.keep c0 (by simp))
   clear c0 HC HV
   go_wp2_with fail
   refine (mnew_none W w0 kc kc_ok C0.out none 0).mono ?_
   rintro e w1 ⟨sy,F0,rfl,hms,hc,_⟩
   have M0:=Lib.hid (show MS W w1 kc sy F0 kS0 from hms)
   have HC0:=Lib.hid (C0.out.trans hc)
   have hsl:Sl w1 5 A (room+2) (cat Ins.enc (fis room)):=by
    have:=Vec.sl Ins.len (HV0.out.keep hc (by simp))
    simpa [fis] using this
   have HS1:=Lib.hid hsl
   clear hms hc hsl HV0 C0 HBE
   go_wp2_with fail
   refine (rcode (q:=1) HS1.out (by simp [fis]) (by have:=H18.out;omega) fgood (HQ.out.chg HC0.out)).mono ?_
   rintro e w2 ⟨be2,A',c',rfl,hv,_,hc⟩
   have HC2:=Lib.hid hc
   have hs2:Sl w2 1 A' (room+2) (((fis room).map codeI).map (Value.int .u64)):=by
    have:=Vec.sl uenc_len hv
    rw [cat_uenc] at this
    simpa [fis] using this
   have HS2:=Lib.hid hs2
   clear hv hc hs2 HS1
   go_wp2_with fail
   refine (cnew (us:=(fis room).map codeI) 0 room HS2.out (by simp [fis]) (by have:=H18.out;omega) fword (by decide) H18.out.1 (by have:=H18.out;omega)).mono ?_
   rintro e w3 ⟨kb,pb,qb,rfl,hk,hp,hq,hc,hco⟩
   have s1:=HC0.out.size
   have s2:=HC2.out.size
   have hms:=Mem.keep M0.out (HC2.out.trans hc)
   have HS0:=Lib.hid (show CS W w3 kc sy F0 kS0 kb pb qb (fQ room 0) from ⟨hms,hco,fun h=>by have:=Mem.old M0.out kb h;omega,fun h=>by have:=Mem.old M0.out pb h;omega,fun h=>by have:=Mem.old M0.out qb h;omega,by omega,by omega,by omega⟩)
   clear hk hp hq hc hco hms s1 s2 HC0 HC2 HS2 M0
   go_wp2_with fail
   go_loopw [12,13] (fun i _ wr=>∃(j:Nat) (F:List Nat),j≤room∧i=.int .i64 j∧CS W wr kc sy F kS0 kb pb qb (fQ room j)) (fun i _ _=>room-(intOf i).toNat)
   case atStart=>exact ⟨0,F0,by omega,rfl,HS0.out⟩
   case round=>
    clear HS0
    obtain ⟨j,F,hj,rfl,hcs⟩:=hrel
    have HCS:=Lib.hid hcs
    clear hcs
    by_cases hlt:j<room
    ·have g2:(j:Int)<(room:Int):=by omega
     have HLT:=Lib.hid hlt
     clear hlt hj
     go_wp2_with fail
     refine (xexec_fresh HCS.out HT.out.1 (fno1 H18.out.1 H18.out.2 HLT.out) (fstep H18.out.1 H18.out.2 HLT.out)).mono ?_
     rintro e w4 ⟨v1,F1,rfl,hev,hcs,_,_⟩
     obtain ⟨ba,na,ra,rfl,ha,_,_,_⟩:=evv_one hev
     have HCS1:=Lib.hid hcs
     clear hcs hev HCS
     have f0:=fun x r=>evr_fit x r 0 (by omega)
     go_wp2_with fail
     exact ⟨⟨j+1,F1,by have:=HLT.out;omega,by go_num,HCS1.out⟩,by have:=HLT.out;simp [intOf];omega⟩
    ·have:room=j:=by omega
     subst this
     clear hlt hj
     go_wp2_with fail
     go_loopw [14] (fun i wr=>∃(j:Nat) (F:List Nat),j≤k∧i=.int .i64 j∧CS W wr kc sy F kS0 kb pb qb (fQ room (room+j))) (fun i _=>k-(intOf i).toNat)
     case atStart=>exact ⟨0,F,by omega,rfl,HCS.out⟩
     case round=>
      clear HCS
      obtain ⟨j,F,hj,rfl,hcs⟩:=hrel
      have HCS:=Lib.hid hcs
      clear hcs
      by_cases hlt:j<k
      ·have g3:(j:Int)<(k:Int):=by omega
       have HLT:=Lib.hid hlt
       have HJ:=Lib.hid (show j<5 by have:=HK.out;omega)
       have HJ':=Lib.hid (show j+1<6 by have:=HK.out;omega)
       clear hlt hj
       go_wp2_with fail
       refine (xexec_fresh HCS.out HT.out.1 (fno2 H18.out.1 H18.out.2 HJ.out) (ffull H18.out.1 H18.out.2 HJ.out)).mono ?_
       rintro e w4 ⟨v1,F1,rfl,hev,hcs,_,_⟩
       obtain ⟨A1,c1,rfl⟩:=hev.none
       have hpl:=(flen' H18.out.1 H18.out.2 HJ.out)
       have HCS1:=Lib.hid hcs
       clear hcs hev HCS
       go_wp2_with fail
       refine (cplace HCS1.out.co.ok.h8 HCS1.out.co.own).mono ?_
       rintro e w5 ⟨rfl,rfl⟩
       rw [hpl.2]
       go_wp2_with fail
       refine (ebuffer HCS1.out).mono ?_
       rintro e w5 ⟨b,rfl,_,c5,_⟩
       rw [hpl.1]
       have HCS2:=Lib.hid (HCS1.out.keep0 c5)
       clear c5 HCS1 hpl
       go_wp2_with fail
       exact ⟨⟨j+1,F1,by have:=HLT.out;omega,by go_num,HCS2.out⟩,by have:=HLT.out;simp [intOf];omega⟩
      ·have:k=j:=by omega
       subst this
       clear hlt hj
       go_wp2_with fail
       clear hk
       go_loopw [15] (fun i wr=>∃(j:Nat) (F:List Nat),j≤2∧i=.int .i64 j∧CS W wr kc sy F (fP room k j).1 kb pb qb (fP room k j).2∧∃cur,Inv kc (3*j) (fP room k j).1 cur∧NN cur) (fun i _=>2-(intOf i).toNat)
       case atStart=>exact ⟨0,F,by omega,rfl,HCS.out,_,kI0,kN0⟩
       case round=>
        clear HCS
        obtain ⟨j,F,hj,rfl,hcs,cur,hI,hN⟩:=hrel
        have HCS:=Lib.hid hcs
        have HI:=Lib.hid hI
        have HN:=Lib.hid hN
        clear hcs hI hN
        have g4:(j:Int)<10:=by omega
        have HJ:=Lib.hid hj
        clear hj
        have hbl:=fbuf H18.out.1 H18.out.2 HK.out HJ.out
        go_wp2_with fail
        refine (ebuffer HCS.out).mono ?_
        rintro e w4 ⟨b,rfl,_,c4,_⟩
        rw [hbl]
        have HCS1:=Lib.hid (HCS.out.keep0 c4)
        clear c4 HCS hbl
        by_cases hlt:j<2
        ·rw [if_pos hlt]
         have HLT:=Lib.hid hlt
         clear hlt
         go_wp2_with fail
         obtain ⟨cur1,hL⟩:=left_drain HI.out HN.out HCS1.out.co.ok.pos
         have HL:=Lib.hid hL
         have b3:3*j≤6:=by have:=HJ.out;omega
         have HB3:=Lib.hid b3
         clear hL b3
         refine (edrain HCS1.out HI.out (by have:=HB3.out;omega) (Roomy.of HI.out (by have:=HB3.out;omega)) HT.out.1).mono ?_
         rintro e w5 ⟨v1,F1,rfl,_,hcs,_,_⟩
         have HCS2:=Lib.hid hcs
         clear hcs HCS1
         go_wp2_with fail
         have hI2:=(HL.out.inv.upM 0).1
         have HI2:=Lib.hid hI2
         clear hI2
         refine (uup HCS2.out.ms HL.out.inv (by have:=HB3.out;omega) (Roomy.of HL.out.inv (by have:=HB3.out;omega)) HT.out.1 0).mono ?_
         rintro e w6 ⟨rfl,m6⟩
         obtain ⟨F2,hcs,_,_⟩:=HCS2.out.step m6
         have HCS3:=Lib.hid hcs
         clear hcs m6 HCS2
         go_wp2_with fail
         have HI3:=Lib.hid (HI2.out.hearM 0).1
         refine (uhear HCS3.out.ms HI2.out (by have:=HB3.out;omega) (Roomy.of HI2.out (by have:=HB3.out;omega)) HT.out 0).mono ?_
         rintro e w7 ⟨rfl,m7⟩
         obtain ⟨F3,hcs,_,_⟩:=HCS3.out.step m7
         have HCS4:=Lib.hid hcs
         clear hcs m7 HCS3
         go_wp2_with fail
         exact ⟨⟨j+1,F3,by have:=HLT.out;omega,by go_num,HCS4.out,cur1,HI3.out,HL.out.nn⟩,by have:=HLT.out;simp [intOf];omega⟩
        ·have:2=j:=by have:=HJ.out;omega
         subst this
         rw [if_neg hlt]
         clear hlt
         have hne:¬(((room-1:Nat):Int)=(room:Int)):=by have:=H18.out;omega
         go_wp2_with fail
         have HCS:=HCS1
         have HR2:=Lib.hid (fun li wo=>Roomy.of (HI.out.loadM ((fP room k 2).2.id) li wo) (by omega))
         have hfe:=fend H18.out.1 H18.out.2 HK.out
         refine (xexec HCS1.out HI.out HN.out (by omega) (Roomy.of HI.out (by omega)) HR2.out HT.out.1 (fno3 H18.out.1 H18.out.2 HK.out)).mono ?_
         rintro e w5 ⟨v1,F1,rfl,hev,hcs,_,_⟩
         rw [hfe.1] at hev
         obtain ⟨ba,na,ra,rfl,ha,_,_,_⟩:=evv_one hev
         have HCS2:=Lib.hid hcs
         clear hcs hev
         have f0:=fun x r=>evr_fit x r 0 (by omega)
         have hpc:(((execC kc (fP room k 2).1 (fP room k 2).2).Q.pc:Nat):Int)=(room:Int)+1:=by rw [hfe.2.1];omega
         go_wp2_with fail
         refine (cplace HCS2.out.co.ok.h8 HCS2.out.co.own).mono ?_
         rintro e w6 ⟨rfl,rfl⟩
         rw [hpc]
         go_wp2_with fail
         refine (ebuffer HCS2.out).mono ?_
         rintro e w6 ⟨b,rfl,_,c6,_⟩
         rw [hfe.2.2]
         have HCG:=Lib.hid (Mem.chg (HCS2.out.keep0 c6).ms)
         clear c6 HCS2
         go_wp2_with fail
         refine (cwakes _ (HT.out.1.keep HCG.out (by simp))).mono ?_
         rintro e w7 ⟨rfl,c7⟩
         have HCE:=Lib.hid (HCG.out.trans c7)
         clear c7
         go_wp2_with fail
         go_ret
         exact ⟨rfl,HCE.out⟩
end Go.Proofs.YtcjoinhngdfdmaaGreatDoor
end
