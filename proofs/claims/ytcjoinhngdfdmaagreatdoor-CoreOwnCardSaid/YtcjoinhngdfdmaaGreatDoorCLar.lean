/- Texts of the walk, one behind the other: Red Ree Wak Alp Loc Alo Low. No condition. -/
import Derived.Test.YtcjoinhngdfdmaaGreatDoorCLam
import Derived.Test.YtcjoinhngdfdmaaGreatDoorCLao
import Derived.Test.YtcjoinhngdfdmaaGreatDoorCLaq
import Derived.OwnWalk
namespace Go.Proofs.YtcjoinhngdfdmaaGreatDoor
open Go.RowKit
set_option linter.unusedVariables false
set_option maxHeartbeats 1000000
set_option maxRecDepth 100000
attribute [local go_sem ↓] append_appS copy_copS clear_clrS make_mkS cell_row frozen_row heap_drew heap_drewN heap_alloc heap_past heap_setCell heap_putRow loadSe storeSe loadIns storeIns loadEv storeEv loadRg storeRg sec_kd sec_li sec_wo sec_va sec_sn insc_op insc_a insc_b insc_c insc_im evc_kd evc_co evc_li evc_wo evc_va coc_id coc_ru coc_reg coc_pr coc_pc coc_qb coc_wt
attribute [local go_sem] rowCell_some rowFrozen_some rowHas_some rowIn_some rowPart_full rowPut_full rowSet_some run_loadS run_storeS run_appS run_copS run_clrS run_mkS loadW_at storeW_at fit_all fit_le one_int one_bool one_pointer one_slice allOne_list putRow_new ne_size1 ne_size2 wideSe wideIns wideEv wideRg sec_size sec_one sec_lit sec_z sec_ne sec_set0 sec_set1 sec_set2 sec_set3 seZ_kd seZ_li seZ_wo seZ_va seZ_sn insc_size insc_one insc_ne insc_lit insc_z evc_size evc_one evc_ne evc_lit evc_z evc_set0 evc_set1 evc_set2 evc_set3 evc_set4 evZ_kd evZ_co evZ_li evZ_wo evZ_va fold_evc coc_setRu coc_size coc_setPc coc_setWt coc_setReg coc_regs vs_size vs_one
attribute [local simp ↓] heap_drew heap_drewN heap_alloc heap_past heap_setCell heap_putRow
attribute [local simp] rowCell_some rowFrozen_some rowHas_some rowIn_some rowPart_full rowPut_full rowSet_some fit_all putRow_new ne_size1 ne_size2 sec_size insc_size evc_size coc_size coc_setRu coc_setPc coc_setWt coc_setReg vs_size fit_le
attribute [local go_sem ↓] heap_drewN
section
def uenc (x:Int):List Value:=[.int .u64 x]
theorem uenc_len (x:Int):(uenc x).length=1:=rfl
theorem uenc_one (x:Int):∀v∈uenc x,v.oneCell'=true:=by intro v hv;simp only [uenc,List.mem_singleton] at hv;subst hv;rfl
theorem cat_uenc (xs:List Int):cat uenc xs=xs.map (Value.int .u64):=by
 induction xs with
 |nil=>rfl
 |cons x xs ih=>rw [cat_cons,ih];rfl
theorem u_info:(Tryz.prog.info? 43).map (fun i=>(i.zero,i.size,i.bytes))=some (some (.int .u64 0),1,8):=by kernel_rfl
theorem eltU:Elt Tryz.prog 37 43 1 8 (.int .u64 0) uenc where
 slice:=Tryz.underlying37
 info:=u_info
 zero:=rfl
 zone:=by intro v hv;simp [Value.cells] at hv;subst hv;rfl
 pos:=by omega
 len:=uenc_len
 one:=uenc_one
theorem rcode {w:World} {q:Nat} {A:Option Addr} {n cap:Nat} {is:List Ins} (hs:Sl w 5 A n (cat Ins.enc is)) (hn:is.length=n) (h5:n≤5000) (hg:∀i∈is,goodI i=true) (hq:Old w q):
 Calls Tryz.prog 14 #[.slice A n cap] w fun e w'=>∃be A' c',e=.returned (.slice A' n c')∧Vec 1 43 uenc w' q be A' c' (is.map codeI)∧(be=q∨w.heap.size≤be)∧Chg [] w w':=by
 have HS:=Lib.hid hs
 have HN:=Lib.hid hn
 have HG:=Lib.hid hg
 have HQ:=Lib.hid hq
 have H5:=Lib.hid h5
 have hl5:(n:Int)≤5000:=by omega
 clear hs hn hg hq h5
 go_enter Tryz.func14,Tryz.ntmps14
 go_wp2_with fail
 go_loopw [3,4] (fun o i wr=>∃(k be cap':Nat) (A':Option Addr),k≤n∧i=.int .i64 k∧o=.slice A' k cap'∧Vec 1 43 uenc wr q be A' cap' ((is.take k).map codeI)∧(be=q∨w.heap.size≤be)∧Chg [] w wr) (fun _ i _=>n-(intOf i).toNat)
 case atStart=>exact ⟨0,q,0,none,by omega,rfl,rfl,Vec.nil ..,.inl rfl,Chg.refl _ _⟩
 case round=>
  obtain ⟨k,be,cap',A',hk,rfl,rfl,hv,hbe,hc⟩:=hrel
  have HV:=Lib.hid hv
  have HBE:=Lib.hid hbe
  have HC:=Lib.hid hc
  clear hv hbe hc
  by_cases hlt:k<n
  ·obtain ⟨x,hx⟩:∃x,is[k]? =some x:=⟨is[k]'(by rw [HN.out];exact hlt),List.getElem?_eq_getElem _⟩
   have HX:=Lib.hid hx
   have HLT:=Lib.hid hlt
   have HGX:=Lib.hid (HG.out x (List.mem_of_getElem? hx))
   have g1:(k:Int)<(n:Int):=by omega
   have g0:(0:Int)≤(k:Int):=by omega
   obtain ⟨b0,o0,hA⟩:=HS.out.addr (by omega)
   subst hA
   obtain ⟨cA,tA,fA,hA,_,hpart⟩:=HS.out.elem (by omega) hlt (cat_part Ins.len hx)
   obtain ⟨hin,hpt⟩:=hpart 0 5 (by omega)
   have hAr:=HC.out.keep hA (by simp)
   have oA:=old hAr
   rw [Nat.add_zero] at hin hpt
   rw [show ((Ins.enc x).drop 0 |>.take 5).toArray=insc x from rfl] at hpt
   clear hx hlt hA hpart
   go_wp2_with fail
   refine (rencode x HGX.out _).mono ?_
   rintro e w1 ⟨rfl,c1⟩
   have c2:Chg [] wr (w1.alloc (.cells #[.int .u64 (codeI x)] 43)):=c1.alloc _
   have hb2:(w1.alloc (.cells #[.int .u64 (codeI x)] 43)).heap[w1.heap.size]? =some (.cells #[.int .u64 (codeI x)] 43 (0,0)):=by simp
   have hsl:Sl (w1.alloc (.cells #[.int .u64 (codeI x)] 43)) 1 (some ⟨w1.heap.size,0,none⟩) 1 (cat uenc [codeI x]):=⟨rfl,.inr ⟨w1.heap.size,0,_,_,(0,0),rfl,hb2,rfl⟩⟩
   have htk:((is.take k).map codeI).length=k:=by simp;have:=HN.out;omega
   obtain ⟨be',cp,A2,w2,happ,hv2,hbe2,hc2⟩:=Vec.acc (ty:=37) eltU (w0:=w) (HC.out.trans c2) (HV.out.keep c2 (by simp)) HBE.out HQ.out hsl (c:=1) rfl (by rw [htk];have:=H5.out;omega) (by rw [htk];have:=H5.out;simp only [maxLen];omega)
   rw [htk] at happ
   have HV2:=Lib.hid hv2
   have HBE2:=Lib.hid hbe2
   have HC2:=Lib.hid hc2
   clear hv2 hbe2 hc2 hsl hb2 c1 c2
   go_wp2_with fail
   refine ⟨⟨k+1,be',cp,A2,by have:=HLT.out;omega,by go_num,rfl,?_,HBE2.out,HC2.out⟩,?_⟩
   ·have:=HV2.out
    obtain ⟨hk1,hk2⟩:=List.getElem?_eq_some_iff.1 HX.out
    rw [List.take_succ_eq_append_getElem hk1,List.map_append,hk2]
    exact this
   ·have:=HLT.out
    simp [intOf]
    omega
  ·have:k=n:=by omega
   subst this
   go_wp2_with fail
   go_ret
   refine ⟨be,A',cap',rfl,?_,HBE.out,HC.out⟩
   have:=HV.out
   rw [List.take_of_length_le (by rw [HN.out];exact Nat.le_refl _)] at this
   exact this
end
section
def noAlu (Q:Co):Prop:=∀u r,Q.pr[Q.pc]? =some (u,r)→decB u=true→(insOf u).op<2∨7<(insOf u).op
theorem xexec {W w:World} {c:Cg} {sy n:Nat} {F:List Nat} {S:Mst} {cur:Nat→List Int} {kb pb qb:Nat} {Q:Co} (h:CS W w c sy F S kb pb qb Q) (hI:Inv c n S cur) (hN:NN cur) (hn:n+1≤1000000000) (hR:Roomy c S) (hR2:∀li wo,Roomy c (loadM c S Q.id li wo).1) (hT:Tab W) (hA:noAlu Q):
 Calls Tryz.prog 17 #[.pointer (some ⟨kb,0,none⟩),.pointer (some ⟨sy,0,none⟩)] w (CSTo W w c sy F kb pb qb (execC c S Q).S (execC c S Q).Q (execC c S Q).ev):=by
 unfold execC
 cases hru:Q.ru
 ·exact xexec_off h hru sy
 rw [if_pos rfl]
 cases hx:Q.pr[Q.pc]? with
 |none=>exact xexec_end h hru (by rw [List.getElem?_eq_none_iff] at hx;exact hx) sy
 |some x=>
  obtain ⟨u,r⟩:=x
  dsimp only
  cases hd:decB u
  ·exact xexec_bad h hI hN hn hR hR2 hT hru hx hd
  rw [if_pos rfl]
  have hg:goodI (insOf u)=true:=by unfold decB at hd;rw [Bool.and_eq_true] at hd;exact hd.1
  have hr:=(goodI_parts hg).1
  have ha:=hA u r hx hd
  have hop:(insOf u).op=0∨(insOf u).op=1∨(insOf u).op=8∨(insOf u).op=9∨(insOf u).op=10∨(insOf u).op=11∨(insOf u).op=12∨(insOf u).op=13∨(insOf u).op=14∨(insOf u).op=15∨(insOf u).op=16∨(insOf u).op=17∨(insOf u).op=18∨(insOf u).op=19∨(insOf u).op=20∨(insOf u).op=21∨(insOf u).op=22:=by omega
  unfold insC
  rcases hop with hk|hk|hk|hk|hk|hk|hk|hk|hk|hk|hk|hk|hk|hk|hk|hk|hk
  ·rw [if_pos hk]
   exact xexec_0 h hI hN hn hR hR2 hT hru hx hd hk
  ·rw [if_neg (by omega),if_pos hk]
   exact xexec_1 h hI hN hn hR hR2 hT hru hx hd hk
  ·rw [if_neg (by omega),if_neg (by omega),if_neg (by omega),if_neg (by omega),if_neg (by omega),if_neg (by omega),if_neg (by omega)]
   exact xexec_8 h hI hN hn hR hR2 hT hru hx hd hk
  ·rw [if_neg (by omega),if_neg (by omega),if_neg (by omega),if_neg (by omega),if_neg (by omega),if_neg (by omega),if_neg (by omega)]
   exact xexec_9 h hI hN hn hR hR2 hT hru hx hd hk
  ·rw [if_neg (by omega),if_neg (by omega),if_neg (by omega),if_neg (by omega),if_neg (by omega),if_neg (by omega),if_neg (by omega)]
   exact xexec_10 h hI hN hn hR hR2 hT hru hx hd hk
  ·rw [if_neg (by omega),if_neg (by omega),if_neg (by omega),if_neg (by omega),if_neg (by omega),if_neg (by omega),if_neg (by omega)]
   exact xexec_11 h hI hN hn hR hR2 hT hru hx hd hk
  ·rw [if_neg (by omega),if_neg (by omega),if_neg (by omega),if_neg (by omega),if_neg (by omega),if_neg (by omega),if_neg (by omega)]
   exact xexec_12 h hI hN hn hR hR2 hT hru hx hd hk
  ·rw [if_neg (by omega),if_neg (by omega),if_neg (by omega),if_neg (by omega),if_neg (by omega),if_neg (by omega),if_neg (by omega)]
   exact xexec_13 h hI hN hn hR hR2 hT hru hx hd hk
  ·rw [if_neg (by omega),if_neg (by omega),if_neg (by omega),if_neg (by omega),if_neg (by omega),if_neg (by omega),if_neg (by omega)]
   exact xexec_14 h hI hN hn hR hR2 hT hru hx hd hk
  ·rw [if_neg (by omega),if_neg (by omega),if_neg (by omega),if_neg (by omega),if_neg (by omega),if_neg (by omega),if_pos (by omega)]
   have e:=xexec_15 h hI hN hn hR hR2 hT hru hx hd hk
   split
   ·rename_i hs;rw [if_pos hs,if_pos hs] at e;exact e
   ·rename_i hs;rw [if_neg hs,if_neg hs] at e;exact e
  ·rw [if_neg (by omega),if_neg (by omega),if_neg (by omega),if_neg (by omega),if_neg (by omega),if_neg (by omega),if_pos (by omega)]
   have e:=xexec_16 h hI hN hn hR hR2 hT hru hx hd hk
   split
   ·rename_i hs;rw [if_pos hs,if_pos hs] at e;exact e
   ·rename_i hs;rw [if_neg hs,if_neg hs] at e;exact e
  ·rw [if_neg (by omega),if_neg (by omega),if_neg (by omega),if_pos (by omega)]
   exact xexec_17 h hI hN hn hR hR2 hT hru hx hd hk
  ·rw [if_neg (by omega),if_neg (by omega),if_neg (by omega),if_pos (by omega)]
   exact xexec_18 h hI hN hn hR hR2 hT hru hx hd hk
  ·rw [if_neg (by omega),if_neg (by omega),if_neg (by omega),if_pos (by omega)]
   exact xexec_19 h hI hN hn hR hR2 hT hru hx hd hk
  ·rw [if_neg (by omega),if_neg (by omega),if_neg (by omega),if_pos (by omega)]
   exact xexec_20 h hI hN hn hR hR2 hT hru hx hd hk
  ·rw [if_neg (by omega),if_neg (by omega),if_neg (by omega),if_neg (by omega),if_pos hk]
   exact xexec_21 h hI hN hn hR hR2 hT hru hx hd hk
  ·rw [if_neg (by omega),if_neg (by omega),if_neg (by omega),if_neg (by omega),if_neg (by omega),if_pos hk]
   exact xexec_22 h hI hN hn hR hR2 hT hru hx hd hk
theorem EvV.look {w:World} {B kb:Nat} {F:List Nat} {v:Value} {x:Ev} (h:EvV w B kb F v [x]):∃be cap,v=.slice (some ⟨be,0,none⟩) 1 cap∧∃r,w.heap[be]? =some (.cells (sq Ev.enc [x] r) 45 (0,0))∧be≠kb∧B≤be∧be∉F:=by
 obtain ⟨A,cap,be,rfl,hv,h1,h2⟩:=h
 rcases hv with ⟨_,_,_,h3⟩|⟨h3,rfl,_,r,h4,_⟩
 ·cases h3
 ·exact ⟨be,cap,rfl,r,h4,h3,h1.resolve_left h3,h2.resolve_left h3⟩
theorem EvV.none {w:World} {B kb:Nat} {F:List Nat} {v:Value} (h:EvV w B kb F v []):∃A cap,v=.slice A 0 cap:=by
 obtain ⟨A,cap,be,rfl,_⟩:=h
 exact ⟨A,cap,rfl⟩
end
section
attribute [local go_sem] insc_set0 insc_set1 insc_set2 insc_set3 insc_set4 insZ_op insZ_a insZ_b insZ_c insZ_im
def kS0:Mst:=⟨List.replicate kc.co (pt0 kc),List.replicate kc.li enE,[],List.replicate (kc.li*8) 0⟩
theorem kI0:Inv kc 0 kS0 (fun i=>ln (List.replicate (kc.li*8) 0) i):=Inv.fresh kc kc_ok _ (by simp)
theorem kN0:NN (fun i=>ln (List.replicate (kc.li*8) 0) i):=by
 intro i x hx
 unfold ln at hx
 have:=List.mem_of_mem_drop (List.mem_of_mem_take hx)
 rw [List.mem_replicate] at this
 omega
def wi1:Ins:=⟨1,1,0,0,5⟩
def wi2:Ins:=⟨9,1,0,0,192⟩
def wi3:Ins:=⟨8,2,0,0,192⟩
def wi4:Ins:=⟨8,3,0,0,193⟩
def wus:List Int:=[codeI wi1,codeI wi2,codeI wi3,codeI wi4]
def wq0:Co:=co0 0 2 wus
def wrd (n:Nat):List (Int×Bool):=[(codeI wi1,decide (1≤n)),(codeI wi2,decide (2≤n)),(codeI wi3,decide (3≤n)),(codeI wi4,decide (4≤n))]
def wse:Se:=⟨9,3,0,5,false⟩
def wq1:Co:=⟨0,true,[0,5,0,0,0,0,0,0],wrd 1,1,2,[],0⟩
def wq2:Co:=⟨0,true,[0,5,0,0,0,0,0,0],wrd 2,2,2,[wse],0⟩
def wq3:Co:=⟨0,true,[0,5,5,0,0,0,0,0],wrd 3,3,2,[wse],0⟩
def wq4:Co:=⟨0,false,[0,5,5,0,0,0,0,0],wrd 4,3,2,[wse],0⟩
theorem we1:execC kc kS0 wq0=⟨kS0,wq1,[]⟩:=by rfl
theorem we2:execC kc kS0 wq1=⟨kS0,wq2,[⟨12,0,3,0,5⟩]⟩:=by rfl
theorem we3:execC kc kS0 wq2=⟨kS0,wq3,[⟨2,0,3,0,5⟩]⟩:=by rfl
theorem we4:execC kc kS0 wq3=⟨kS0,wq4,[⟨10,0,0,0,0⟩]⟩:=by rfl
theorem wgood:∀i∈[wi1,wi2,wi3,wi4],goodI i=true:=by decide
theorem noAlu_at {Q:Co} {u:Int} {r:Bool} (h:Q.pr[Q.pc]? =some (u,r)) (ho:(insOf u).op<2∨7<(insOf u).op):noAlu Q:=by
 intro u' r' h' _
 rw [h] at h'
 injection h' with h'
 injection h' with h1 h2
 rw [←h1]
 exact ho
theorem xexec_fresh {W w:World} {F:List Nat} {sy kb pb qb:Nat} {Q Q':Co} {l:List Ev} (h:CS W w kc sy F kS0 kb pb qb Q) (hT:Tab W) (hA:noAlu Q) (he:execC kc kS0 Q=⟨kS0,Q',l⟩):
 Calls Tryz.prog 17 #[.pointer (some ⟨kb,0,none⟩),.pointer (some ⟨sy,0,none⟩)] w (CSTo W w kc sy F kb pb qb kS0 Q' l):=by
 have:=xexec h kI0 kN0 (by omega) (Roomy.of kI0 (by omega)) (fun li wo=>Roomy.of (kI0.loadM _ li wo) (by omega)) hT hA
 rw [he] at this
 exact this
def evr (x:Ev) (r:List Value):Array Value:=sq Ev.enc [x] r
theorem evr_kd (x:Ev) (r:List Value):(evr x r)[0]? =some (.int .i64 x.kd):=by simp [evr,sq,cat,Ev.enc]
theorem evr_li (x:Ev) (r:List Value):(evr x r)[2]? =some (.int .i64 x.li):=by simp [evr,sq,cat,Ev.enc]
theorem evr_va (x:Ev) (r:List Value):(evr x r)[4]? =some (.int .u64 x.va):=by simp [evr,sq,cat,Ev.enc]
theorem evr_fit (x:Ev) (r:List Value) (k:Nat) (h:k<5):Fit k 1 (evr x r).size:=by
 show k+1≤_
 unfold evr
 rw [sq_size Ev.len]
 simp
 omega
attribute [local go_sem ↓] evr_kd evr_li evr_va
theorem evv_one {w:World} {B kb:Nat} {F:List Nat} {v:Value} {x:Ev} (h:EvV w B kb F v [x]):∃be cap r,v=.slice (some ⟨be,0,none⟩) 1 cap∧w.heap[be]? =some (.cells (evr x r) 45 (0,0))∧be≠kb∧B≤be∧be∉F:=by
 obtain ⟨be,cap,h1,r,h2,h3⟩:=h.look
 exact ⟨be,cap,r,h1,h2,h3⟩
theorem wp_value {P:Program} {o:Oper} {a:Act} {w w':World} {K:Act→World→Prop} {Q:Exit→Act→World→Prop} {v:Value} (h:(execOp a.eval o).run P w=.ok (.value v) w') (hk:K (a.put o.dst v) w'):o.wp P a w K Q:=by
 unfold Oper.wp
 rw [h]
 exact hk
theorem windex (W:World):(Instr.index 47 (.agg (vs [0,5,5,0,0,0,0,0])) (.int .i64 2)).run Tryz.prog W=.ok (.int .u64 5) W:=by kernel_rfl
attribute [local go_sem ↓] windex
attribute [local go_sem] evr_fit
set_option maxHeartbeats 1000000 in
theorem cwakes (W:World) (hT:Tab W):Calls Tryz.prog 12 #[] W fun e w'=>e=.returned (.bool true)∧Chg [] W w':=by
 have HT:=Lib.hid hT
 clear hT
 go_enter Tryz.func12,Tryz.ntmps12
 try dsimp only [List.append]
 go_wp2_with fail
 refine (kplain W).mono ?_
 rintro e w0 ⟨rfl,c0⟩
 have C0:=Lib.hid c0
 clear c0
 go_wp2_with fail
 refine (mnew_none W w0 kc kc_ok C0.out none 0).mono ?_
 rintro e w1 ⟨sy,F0,rfl,hm,hc,hk⟩
 have M0:=Lib.hid (show MS W w1 kc sy F0 kS0 from hm)
 have HC0:=Lib.hid (C0.out.trans hc)
 clear hm hc hk
 go_upto_region 2 with (fail)
 go_step
 iterate 11 (first |go_values|go_skip|go_guarded|go_step)
 go_at_K
 go_step
 go_step
 refine wp_value (v:=.slice (some ⟨w1.heap.size,0,none⟩) 4 4) (w':=w1.alloc (.cells (cat Ins.enc [wi1,wi2,wi3,wi4]).toArray 33)) (by kernel_rfl) ?_
 go_at_K
 go_wp2_with fail
 have cW:Chg [] W (w1.alloc (.cells (cat Ins.enc [wi1,wi2,wi3,wi4]).toArray 33)):=HC0.out.alloc _
 have hbb:(w1.alloc (.cells (cat Ins.enc [wi1,wi2,wi3,wi4]).toArray 33)).heap[w1.heap.size]? =some (.cells (cat Ins.enc [wi1,wi2,wi3,wi4]).toArray 33 (0,0)):=by simp
 have hsl:Sl (w1.alloc (.cells (cat Ins.enc [wi1,wi2,wi3,wi4]).toArray 33)) 5 (some ⟨w1.heap.size,0,none⟩) 4 (cat Ins.enc [wi1,wi2,wi3,wi4]):=⟨rfl,.inr ⟨w1.heap.size,0,_,_,(0,0),rfl,hbb,rfl⟩⟩
 refine (rcode (q:=1) hsl rfl (by omega) wgood (HT.out.elim fun _ h=>h.elim fun _ h=>old (cW.keep h (by simp)))).mono ?_
 rintro e w2 ⟨be,A',c',rfl,hv,hbe,hc⟩
 have HC2:=Lib.hid (((Chg.refl [] w1).alloc (.cells (cat Ins.enc [wi1,wi2,wi3,wi4]).toArray 33)).trans hc)
 have hs2:Sl w2 1 A' 4 (wus.map (Value.int .u64)):=by
  have:=Vec.sl uenc_len hv
  rwa [cat_uenc] at this
 have HS2:=Lib.hid hs2
 clear cW hbb hsl hv hbe hc hs2
 go_wp2_with fail
 refine (cnew (us:=wus) 0 2 HS2.out rfl (by decide) (by decide) (by decide) (by decide) (by decide)).mono ?_
 rintro e w3 ⟨kb,pb,qb,rfl,hk,hp,hq,hc,hco⟩
 have s1:=HC0.out.size
 have s2:=HC2.out.size
 have hms:=Mem.keep M0.out (HC2.out.trans hc)
 have HS0:=Lib.hid (show CS W w3 kc sy F0 kS0 kb pb qb wq0 from ⟨hms,hco,fun h=>by have:=Mem.old M0.out kb h;omega,fun h=>by have:=Mem.old M0.out pb h;omega,fun h=>by have:=Mem.old M0.out qb h;omega,by omega,by omega,by omega⟩)
 have HC3:=Lib.hid (HC0.out.trans (HC2.out.trans hc))
 clear hk hp hq hc hco hms s1 s2
 go_wp2_with fail
 have hTW:Tab W:=HT.out
 refine (xexec_fresh HS0.out hTW (noAlu_at (u:=codeI wi1) (r:=false) rfl (.inl (by decide))) we1).mono ?_
 rintro e w4 ⟨v1,F1,rfl,_,hcs,_,_⟩
 have HS1:=Lib.hid hcs
 clear hcs HS0
 go_wp2_with fail
 refine (xexec_fresh HS1.out hTW (noAlu_at (u:=codeI wi2) (r:=false) rfl (.inr (by decide))) we2).mono ?_
 rintro e w5 ⟨v2,F2,rfl,hev,hcs,_,_⟩
 obtain ⟨ba,na,ra,rfl,ha,ha1,ha2,ha3⟩:=evv_one hev
 have HS2:=Lib.hid hcs
 have HA2:=Lib.hid ha
 have ha4:=HS1.out.co.oldp.lt
 have ha5:=HS1.out.co.oldq.lt
 have NA:=Lib.hid (show ba≠kb∧ba≠pb∧ba≠qb∧ba∉F2 from ⟨ha1,by omega,by omega,ha3⟩)
 clear hcs HS1 hev ha ha1 ha2 ha3 ha4 ha5
 go_wp2_with fail
 refine (xexec_fresh HS2.out hTW (noAlu_at (u:=codeI wi3) (r:=false) rfl (.inr (by decide))) we3).mono ?_
 rintro e w6 ⟨v3,F3,rfl,hev,hcs,hc,hk⟩
 obtain ⟨bb,nb,rb,rfl,hb,hb1,hb2,hb3⟩:=evv_one hev
 have hA3:=hc.keep HA2.out (by have:=NA.out;simp;exact ⟨this.1,this.2.1,this.2.2.1,this.2.2.2⟩)
 have hla:=(old HA2.out).lt
 have HS3:=Lib.hid hcs
 have HA3:=Lib.hid hA3
 have HB3:=Lib.hid hb
 have hb4:=HS2.out.co.oldp.lt
 have hb5:=HS2.out.co.oldq.lt
 have NB:=Lib.hid (show bb≠kb∧bb≠pb∧bb≠qb∧bb∉F3 from ⟨hb1,by omega,by omega,hb3⟩)
 have NA3:=Lib.hid (show ba≠kb∧ba≠pb∧ba≠qb∧ba∉F3 from ⟨NA.out.1,NA.out.2.1,NA.out.2.2.1,fun hm=>by rcases hk ba hm with h|h;exact NA.out.2.2.2 h;omega⟩)
 clear hcs HS2 hev hb hb1 hb2 hb3 hb4 hb5 hc hk hA3 hla HA2 NA
 go_wp2_with fail
 refine (xexec_fresh HS3.out hTW (noAlu_at (u:=codeI wi4) (r:=false) rfl (.inr (by decide))) we4).mono ?_
 rintro e w7 ⟨v4,F4,rfl,hev,hcs,hc,hk⟩
 obtain ⟨bd,nd,rd,rfl,hd,_,_,_⟩:=evv_one hev
 have hA4:=hc.keep HA3.out (by have:=NA3.out;simp;exact ⟨this.1,this.2.1,this.2.2.1,this.2.2.2⟩)
 have hB4:=hc.keep HB3.out (by have:=NB.out;simp;exact ⟨this.1,this.2.1,this.2.2.1,this.2.2.2⟩)
 have HS4:=Lib.hid hcs
 clear hcs HS3 hev hc hk HA3 HB3 NA3 NB
 have f0:=fun x r=>evr_fit x r 0 (by omega)
 have f2:=fun x r=>evr_fit x r 2 (by omega)
 have f4:=fun x r=>evr_fit x r 4 (by omega)
 go_wp2_with fail
 have hown:w7.heap[kb]? =some (.cells (coc 0 false [0,5,5,0,0,0,0,0] pb 4 3 qb 0) 98 (0,0)):=HS4.out.co.own
 refine (cregs rfl hown).mono ?_
 rintro e w8 ⟨rfl,c8⟩
 have h8:=c8.keep hown (by simp)
 have HS5:=Lib.hid (HS4.out.keep0 c8)
 clear hown c8 HS4 hA4 hB4 hd
 go_wp2_with fail
 refine (cruns h8).mono ?_
 rintro e w9 ⟨rfl,rfl⟩
 clear h8
 go_wp2_with fail
 refine (ebuffer HS5.out).mono ?_
 rintro e w10 ⟨b,rfl,_,c10,_⟩
 have HC:=Lib.hid (Mem.chg (HS5.out.keep0 c10).ms)
 clear c10 HS5
 go_wp2_with fail
 go_ret
 exact ⟨rfl,HC.out⟩
end
end Go.Proofs.YtcjoinhngdfdmaaGreatDoor
namespace Go.Proofs.YtcjoinhngdfdmaaGreatDoor
open Go.RowKit
set_option linter.unusedVariables false
set_option maxHeartbeats 1000000
section
def pdA:Nat→Mst→Mst
 |0,S=>S
 |k+1,S=>(drainM kc (pushM kc (pdA k S) k).1 k).1
def rA3 (S:Mst) (Q:Co):Mst:=(answerM kc (upM kc (drainC kc (execC kc S Q).S (execC kc S Q).Q).S 0).1 0).1
def rA2 (S:Mst) (Q:Co):Co:=(drainC kc (execC kc S Q).S (execC kc S Q).Q).Q
def rndA (S:Mst) (Q:Co):Did13:=
 ⟨pdA 6 (hearM kc (rA3 S Q) 0).1,(hearC (rA2 S Q) (hearM kc (rA3 S Q) 0).2.m).1,(execC kc S Q).ev++((drainC kc (execC kc S Q).S (execC kc S Q).Q).ev++(hearC (rA2 S Q) (hearM kc (rA3 S Q) 0).2.m).2)⟩
def runA (us:List Int):Nat→Did13
 |0=>⟨kS0,co0 0 2 us,[]⟩
 |i+1=>⟨(rndA (runA us i).S (runA us i).Q).S,(rndA (runA us i).S (runA us i).Q).Q,(runA us i).ev++(rndA (runA us i).S (runA us i).Q).ev⟩
def tellsA (l:List Ev):List Int:=(l.filter (fun e=>e.kd==8)).map (·.va)
theorem tellsA_snoc (l:List Ev) (e:Ev):tellsA (l++[e])=if e.kd=8 then tellsA l++[e.va] else tellsA l:=by
 unfold tellsA
 rw [List.filter_append]
 by_cases h:e.kd=8
 ·simp [h]
 ·simp [h]
theorem tellsA_take {l:List Ev} {j:Nat} {e:Ev} (h:l[j]? =some e):tellsA (l.take (j+1))=if e.kd=8 then tellsA (l.take j)++[e.va] else tellsA (l.take j):=by
 rw [List.take_add_one,h]
 exact tellsA_snoc _ e
theorem loadC_len (S:Mst) (Q:Co) (a li wo:Int):(loadC kc S Q a li wo).ev.length≤2:=by
 unfold loadC
 split
 ·simp
 ·split<;>simp
theorem putC_len (S:Mst) (Q:Co) (kd:Int) (e:Se):(putC S Q kd e).ev.length≤2:=by
 unfold putC
 split<;>simp
theorem changeC_len (S:Mst) (Q:Co) (i:Ins) (li wo:Int):(changeC kc S Q i li wo).ev.length≤2:=by
 unfold changeC
 split
 ·split
  ·split<;>simp
  ·simp
 ·simp
theorem accessC_len (S:Mst) (Q:Co) (i:Ins):(accessC kc S Q i).ev.length≤2:=by
 unfold accessC
 split
 ·split
  ·exact loadC_len ..
  ·split
   ·exact putC_len ..
   ·split
    ·exact changeC_len ..
    ·exact putC_len ..
 ·simp
theorem insC_len (S:Mst) (Q:Co) (i:Ins):(insC kc S Q i).ev.length≤2:=by
 unfold insC
 split
 ·simp
 ·split
  ·simp
  ·split
   ·simp
   ·split
    ·simp
    ·split
     ·simp
     ·split
      ·simp
      ·split
       ·split<;>simp
       ·exact accessC_len ..
theorem execC_len (S:Mst) (Q:Co):(execC kc S Q).ev.length≤2:=by
 unfold execC
 split
 ·split
  ·simp
  ·split
   ·exact insC_len ..
   ·simp
 ·simp
theorem drainC_len (S:Mst) (Q:Co):(drainC kc S Q).ev.length≤1:=by
 unfold drainC
 split
 ·simp
 ·split
  ·split<;>simp
  ·split
   ·split<;>simp
   ·split
    ·simp
    ·split<;>simp
theorem hearC_len (Q:Co) (m:Ms):(hearC Q m).2.length≤1:=by
 unfold hearC
 split<;>simp
theorem rndA_len (S:Mst) (Q:Co):(rndA S Q).ev.length≤4:=by
 unfold rndA
 simp only [List.length_append]
 have:=execC_len S Q
 have:=drainC_len (execC kc S Q).S (execC kc S Q).Q
 have:=hearC_len (rA2 S Q) (hearM kc (rA3 S Q) 0).2.m
 omega
theorem runA_len (us:List Int):∀i,(runA us i).ev.length≤4*i
 |0=>by simp [runA]
 |i+1=>by
  show ((runA us i).ev++(rndA (runA us i).S (runA us i).Q).ev).length≤_
  rw [List.length_append]
  have:=runA_len us i
  have:=rndA_len (runA us i).S (runA us i).Q
  omega
structure AL (W w:World) (sy:Nat) (F:List Nat) (S:Mst) (kb pb qb:Nat) (Q:Co) (q be cap:Nat) (A:Option Addr) (l:List Ev):Prop where
 cs:CS W w kc sy F S kb pb qb Q
 v:Vec 5 45 Ev.enc w q be A cap l
 b:be=q∨W.heap.size≤be
 a:be∉kb::pb::qb::F
 q:q<W.heap.size
section
variable {W w w':World} {sy:Nat} {F F':List Nat} {S S':Mst} {kb pb qb:Nat} {Q Q':Co} {q be cap:Nat} {A:Option Addr} {l:List Ev}
theorem AL.all (h:AL W w sy F S kb pb qb Q q be cap A l):Chg [] W w:=Mem.chg h.cs.ms
theorem AL.oq (h:AL W w sy F S kb pb qb Q q be cap A l):Old w q:=by
 have:=h.all.size
 have:=h.q
 show q<w.heap.size
 omega
theorem AL.ob (h:AL W w sy F S kb pb qb Q q be cap A l):be<w.heap.size:=(h.v.old h.oq).lt
theorem AL.step (h:AL W w sy F S kb pb qb Q q be cap A l) (hcs:CS W w' kc sy F' S' kb pb qb Q') (hc:Chg (kb::pb::qb::F) w w') (hF:∀k∈F',k∈F∨w.heap.size≤k):AL W w' sy F' S' kb pb qb Q' q be cap A l:=by
 refine ⟨hcs,h.v.keep hc h.a,h.b,?_,h.q⟩
 have hb:=h.ob
 have ha:=h.a
 simp only [List.mem_cons,not_or] at ha ⊢
 refine ⟨ha.1,ha.2.1,ha.2.2.1,fun hm=>?_⟩
 rcases hF be hm with h1|h1
 ·exact ha.2.2.2 h1
 ·omega
theorem AL.sys (h:AL W w sy F S kb pb qb Q q be cap A l) (m:MTS W w kc sy F S' w'):∃F',AL W w' sy F' S' kb pb qb Q q be cap A l:=by
 obtain ⟨F',h1,h2,h3⟩:=h.cs.step m
 exact ⟨F',h.step h1 (h2.mono (by intro x hx;left;simp [hx])) h3⟩
theorem AL.keep0 (h:AL W w sy F S kb pb qb Q q be cap A l) (hc:Chg [] w w'):AL W w' sy F S kb pb qb Q q be cap A l:=
 ⟨h.cs.keep0 hc,h.v.keep hc (by simp),h.b,h.a,h.q⟩
theorem AL.app (h:AL W w sy F S kb pb qb Q q be cap A l) {B:Option Addr} {m c:Nat} {x:List Ev} (hs:Sl w 5 B m (cat Ev.enc x)) (hm:x.length=m) (hl:l.length+m≤100000):
 ∃(be' cap':Nat) (A':Option Addr) (w':World),appR Tryz.prog 41 41 #[.slice A l.length cap,.slice B m c] w=.ok (.slice A' (l.length+m) cap') w'∧AL W w' sy F S kb pb qb Q q be' cap' A' (l++x):=by
 obtain ⟨be',cap',A',w',h1,h2,h3,h4,h5⟩:=h.v.app (ty:=41) eltEv h.oq hs (c:=c) hm (by omega) (by unfold maxLen;omega)
 refine ⟨be',cap',A',w',h1,?_⟩
 have ha:=h.a
 have hold:=h.cs.old
 have hnew:=Mem.new h.cs.ms
 have hsz:=h.all.size
 have l1:=h.cs.lk;have l2:=h.cs.lp;have l3:=h.cs.lq
 have hq:=h.q
 have hcs:CS W w' kc sy F S kb pb qb Q:=by
  by_cases hb:be=q
  ·subst hb
   exact h.cs.keep0 (h4.less h5)
  ·simp only [List.mem_cons,not_or] at ha
   exact h.cs.keep1 h4 ha.2.2.2 ⟨ha.1,ha.2.1,ha.2.2.1⟩ (by rcases h.b with e|e;exact absurd e hb;exact e)
 refine ⟨hcs,h2,?_,?_,hq⟩
 ·rcases h3 with rfl|h3
  ·exact h.b
  ·exact .inr (by omega)
 ·rcases h3 with rfl|h3
  ·exact ha
  ·have b1:kb<w.heap.size:=h.cs.co.oldk
   have b2:pb<w.heap.size:=h.cs.co.oldp
   have b3:qb<w.heap.size:=h.cs.co.oldq
   simp only [List.mem_cons,not_or]
   exact ⟨by omega,by omega,by omega,fun hm=>by have:=hold be' hm;omega⟩
end
theorem EvV.sl {w:World} {B kb:Nat} {F:List Nat} {v:Value} {x:List Ev} (h:EvV w B kb F v x):∃A c,v=.slice A x.length c∧Sl w 5 A x.length (cat Ev.enc x):=by
 obtain ⟨A,cap,be,rfl,h2,_⟩:=h
 exact ⟨A,cap,rfl,h2.sl Ev.len⟩
theorem AL.told {W w w':World} {sy:Nat} {F F':List Nat} {S S':Mst} {kb pb qb:Nat} {Q Q':Co} {q be cap:Nat} {A:Option Addr} {l x:List Ev} {v:Value} (h:AL W w sy F S kb pb qb Q q be cap A l)
 (hv:EvV w' w.heap.size kb F' v x) (hcs:CS W w' kc sy F' S' kb pb qb Q') (hc:Chg (kb::pb::qb::F) w w') (hF:∀k∈F',k∈F∨w.heap.size≤k) (hl:l.length+x.length≤100000):
 ∃(be' cap' c2:Nat) (A' A2:Option Addr) (w2:World),v=.slice A2 x.length c2∧appR Tryz.prog 41 41 #[.slice A l.length cap,.slice A2 x.length c2] w'=.ok (.slice A' (l.length+x.length) cap') w2∧AL W w2 sy F' S' kb pb qb Q' q be' cap' A' (l++x):=by
 obtain ⟨A2,c2,rfl,hs⟩:=hv.sl
 obtain ⟨be',cap',A',w2,h1,h2⟩:=(h.step hcs hc hF).app hs (c:=c2) rfl hl
 exact ⟨be',cap',c2,A',A2,w2,rfl,h1,h2⟩
theorem inv_rnd {n:Nat} {S:Mst} {Q:Co} {cur:Nat→List Int} (hI:Inv kc n S cur) (hN:NN cur) (hp:PosC Q):
 (∃cur1,Went kc (n+2) (execC kc S Q) Q cur1∧∃cur2,Left13 kc (n+3) (drainC kc (execC kc S Q).S (execC kc S Q).Q) (execC kc S Q).Q cur2∧Inv kc (n+4) (upM kc (drainC kc (execC kc S Q).S (execC kc S Q).Q).S 0).1 cur2∧Inv kc (n+5) (rA3 S Q) cur2∧
  ∀k,k≤6→Inv kc (n+6+2*k) (pdA k (hearM kc (rA3 S Q) 0).1) cur2):=by
 obtain ⟨cur1,h1⟩:=went_exec hI hN hp
 obtain ⟨cur2,h2⟩:=left_drain h1.inv h1.nn h1.pos
 refine ⟨cur1,h1,cur2,h2,(h2.inv.upM 0).1,((h2.inv.upM 0).1.answerM 0).1,fun k hk=>?_⟩
 induction k with
 |zero=>exact (((h2.inv.upM 0).1.answerM 0).1.hearM 0).1
 |succ k ih=>
  have:=ih (by omega)
  exact (this.pushM k).drainM k
end
section
def lis (a b c:Int):List Ins:=[⟨1,1,0,0,a⟩,⟨1,6,0,0,128⟩,⟨9,1,6,0,0⟩,⟨1,2,0,0,b⟩,⟨1,3,0,0,c⟩,⟨10,2,6,3,0⟩,⟨21,2,0,0,0⟩,⟨11,4,6,3,0⟩,⟨21,4,0,0,0⟩,⟨8,5,6,0,0⟩,⟨21,5,0,0,0⟩,⟨22,0,0,0,0⟩]
def lus (a b c:Int):List Int:=(lis a b c).map codeI
def chgT (t:Bool) (S:Mst) (Q:Co) (i:Ins):Did13:=
 if atB kc.li (addrI Q i) then
  (if settledB Q then
   if (reachM kc S Q.id (lineOf (addrI Q i))).2.hit then
    if t then
     ⟨(storeM kc (loadM kc (reachM kc S Q.id (lineOf (addrI Q i))).1 Q.id (lineOf (addrI Q i)) (wordOf (addrI Q i))).1 Q.id (lineOf (addrI Q i)) (wordOf (addrI Q i)) (chgV Q i (loadM kc (reachM kc S Q.id (lineOf (addrI Q i))).1 Q.id (lineOf (addrI Q i)) (wordOf (addrI Q i))).2.v)).1,nextC (setR Q i.a (loadM kc (reachM kc S Q.id (lineOf (addrI Q i))).1 Q.id (lineOf (addrI Q i)) (wordOf (addrI Q i))).2.v),[evC Q 4 (lineOf (addrI Q i)) (wordOf (addrI Q i)) (loadM kc (reachM kc S Q.id (lineOf (addrI Q i))).1 Q.id (lineOf (addrI Q i)) (wordOf (addrI Q i))).2.v,evC Q 3 (lineOf (addrI Q i)) (wordOf (addrI Q i)) (chgV Q i (loadM kc (reachM kc S Q.id (lineOf (addrI Q i))).1 Q.id (lineOf (addrI Q i)) (wordOf (addrI Q i))).2.v)]⟩
    else ⟨(loadM kc (reachM kc S Q.id (lineOf (addrI Q i))).1 Q.id (lineOf (addrI Q i)) (wordOf (addrI Q i))).1,nextC (setR Q i.a (loadM kc (reachM kc S Q.id (lineOf (addrI Q i))).1 Q.id (lineOf (addrI Q i)) (wordOf (addrI Q i))).2.v),[evC Q 4 (lineOf (addrI Q i)) (wordOf (addrI Q i)) (loadM kc (reachM kc S Q.id (lineOf (addrI Q i))).1 Q.id (lineOf (addrI Q i)) (wordOf (addrI Q i))).2.v]⟩
   else ⟨(reachM kc S Q.id (lineOf (addrI Q i))).1,Q,[]⟩
  else ⟨S,Q,[]⟩)
 else ⟨S,stopC Q,[evC Q 10 0 0 0]⟩
def tst (S:Mst) (Q:Co) (i:Ins):Bool:=chgB Q i (loadM kc (reachM kc S Q.id (lineOf (addrI Q i))).1 Q.id (lineOf (addrI Q i)) (wordOf (addrI Q i))).2.v
theorem insC_cas (S:Mst) (Q:Co) (i:Ins) (h:i.op=10):insC kc S Q i=chgT (tst S Q i) S Q i:=by
 unfold insC accessC changeC chgT tst
 simp [h]
def insT (t:Bool) (S:Mst) (Q:Co) (i:Ins):Did13:=if i.op=10 then chgT t S Q i else insC kc S Q i
theorem insC_T (S:Mst) (Q:Co) (i:Ins):insC kc S Q i=insT (tst S Q i) S Q i:=by
 unfold insT
 split
 ·exact insC_cas S Q i (by assumption)
 ·rfl
def execI (is:List Ins) (t:Bool) (S:Mst) (Q:Co):Did13:=
 if Q.ru then
  match is[Q.pc]? with
  |none=>⟨S,stopC Q,[evC Q 10 0 0 0]⟩
  |some i=>insT t S (readC Q (codeI i)) i
 else ⟨S,Q,[]⟩
def tstE (is:List Ins) (S:Mst) (Q:Co):Bool:=
 match is[Q.pc]? with
 |none=>true
 |some i=>tst S (readC Q (codeI i)) i
theorem execC_I {is:List Ins} (hg:∀i∈is,goodI i=true) {S:Mst} {Q:Co} (hp:Q.pr.map (·.1)=is.map codeI):execC kc S Q=execI is (tstE is S Q) S Q:=by
 unfold execC execI tstE
 split
 ·have h1:(Q.pr.map (·.1))[Q.pc]? =(is.map codeI)[Q.pc]?:=by rw [hp]
  rw [List.getElem?_map,List.getElem?_map] at h1
  cases hi:is[Q.pc]? with
  |none=>
   rw [hi] at h1
   cases hq:Q.pr[Q.pc]? with
   |none=>rfl
   |some x=>rw [hq] at h1;simp at h1
  |some i=>
   rw [hi] at h1
   cases hq:Q.pr[Q.pc]? with
   |none=>rw [hq] at h1;simp at h1
   |some x=>
    rw [hq] at h1
    obtain ⟨u,r⟩:=x
    simp only [Option.map_some,Option.some.injEq] at h1
    subst h1
    have hgi:=hg i (List.mem_of_getElem? hi)
    obtain ⟨g1,g2,_⟩:=dec_code hgi
    simp only [g1,g2,if_pos]
    exact insC_T _ _ _
 ·rfl
def rL3 (is:List Ins) (t:Bool) (S:Mst) (Q:Co):Mst:=(answerM kc (upM kc (drainC kc (execI is t S Q).S (execI is t S Q).Q).S 0).1 0).1
def rL2 (is:List Ins) (t:Bool) (S:Mst) (Q:Co):Co:=(drainC kc (execI is t S Q).S (execI is t S Q).Q).Q
def rndL (is:List Ins) (t:Bool) (S:Mst) (Q:Co):Did13:=
 ⟨pdA 6 (hearM kc (rL3 is t S Q) 0).1,(hearC (rL2 is t S Q) (hearM kc (rL3 is t S Q) 0).2.m).1,(execI is t S Q).ev++((drainC kc (execI is t S Q).S (execI is t S Q).Q).ev++(hearC (rL2 is t S Q) (hearM kc (rL3 is t S Q) 0).2.m).2)⟩
theorem rnd_eq {is:List Ins} (hg:∀i∈is,goodI i=true) {S:Mst} {Q:Co} (hp:Q.pr.map (·.1)=is.map codeI):rndA S Q=rndL is (tstE is S Q) S Q:=by
 have h:=execC_I hg (S:=S) hp
 unfold rndA rndL rA3 rA2 rL3 rL2
 rw [h]
def runL (is:List Ins) (t:Bool):Nat→Did13
 |0=>⟨kS0,co0 0 2 (is.map codeI),[]⟩
 |i+1=>⟨(rndL is t (runL is t i).S (runL is t i).Q).S,(rndL is t (runL is t i).S (runL is t i).Q).Q,(runL is t i).ev++(rndL is t (runL is t i).S (runL is t i).Q).ev⟩
theorem lcase {i:Nat} (h:i<12):i=0∨i=1∨i=2∨i=3∨i=4∨i=5∨i=6∨i=7∨i=8∨i=9∨i=10∨i=11:=by omega
theorem goodR_i {r:Int} (h:0≤r∧r<8):goodR r true=true:=by simp [goodR,h.1,h.2]
theorem lgood {a b c:Int} (ha:0≤a∧a<256) (hb:0≤b∧b<256) (hc:0≤c∧c<256):∀i∈lis a b c,goodI i=true:=by
 have li:∀r x:Int,0≤r∧r<8→0≤x∧x<256→goodI ⟨1,r,0,0,x⟩=true:=by
  intro r x hr hx
  have e1:goodM x 1=true:=by
   show goodMb x true false=true
   unfold goodMb
   rw [if_pos rfl,if_neg (by simp)]
   simp;omega
  show (isOpB 1&&(goodR r true&&(goodR 0 false&&(goodR 0 false&&goodM x 1))))=true
  rw [goodR_i hr,e1];rfl
 intro i hi
 simp only [lis,List.mem_cons,List.not_mem_nil,or_false] at hi
 rcases hi with rfl|rfl|rfl|rfl|rfl|rfl|rfl|rfl|rfl|rfl|rfl|rfl
 ·exact li 1 a (by omega) ha
 ·decide
 ·decide
 ·exact li 2 b (by omega) hb
 ·exact li 3 c (by omega) hc
 all_goals decide
section
variable {a b c:Int} {t:Bool} {i:Nat}
theorem lru (h:i<12):(runL (lis a b c) t i).Q.ru=true:=by
 cases t<;>rcases lcase h with rfl|rfl|rfl|rfl|rfl|rfl|rfl|rfl|rfl|rfl|rfl|rfl<;>kernel_rfl
theorem lpc (h:i<12):(runL (lis a b c) t i).Q.pc=i:=by
 cases t<;>rcases lcase h with rfl|rfl|rfl|rfl|rfl|rfl|rfl|rfl|rfl|rfl|rfl|rfl<;>kernel_rfl
theorem lpr (h:i<12):(runL (lis a b c) t i).Q.pr.map (·.1)=(lis a b c).map codeI:=by
 cases t<;>rcases lcase h with rfl|rfl|rfl|rfl|rfl|rfl|rfl|rfl|rfl|rfl|rfl|rfl<;>kernel_rfl
theorem lcas:tstE (lis a b c) (runL (lis a b c) t 5).S (runL (lis a b c) t 5).Q=(IntKind.u64.wrap a==IntKind.u64.wrap b):=by
 cases t<;>kernel_rfl
theorem lend:(runL (lis a b c) t 12).Q.ru=false:=by cases t<;>kernel_rfl
theorem ltellT:tellsA (runL (lis a b c) true 12).ev=[IntKind.u64.wrap a,IntKind.u64.wrap c,IntKind.u64.wrap (IntKind.u64.wrap c+IntKind.u64.wrap c)]:=by kernel_rfl
theorem ltellF:tellsA (runL (lis a b c) false 12).ev=[IntKind.u64.wrap a,IntKind.u64.wrap a,IntKind.u64.wrap (IntKind.u64.wrap a+IntKind.u64.wrap c)]:=by kernel_rfl
theorem lsame (s:Bool) (h:i<12) (h5:i≠5):rndL (lis a b c) s (runL (lis a b c) t i).S (runL (lis a b c) t i).Q=rndL (lis a b c) t (runL (lis a b c) t i).S (runL (lis a b c) t i).Q:=by
 cases t<;>cases s<;>rcases lcase h with rfl|rfl|rfl|rfl|rfl|rfl|rfl|rfl|rfl|rfl|rfl|rfl<;>first |(exact absurd rfl h5)|kernel_rfl
theorem lstep (ha:0≤a∧a<256) (hb:0≤b∧b<256) (hc:0≤c∧c<256) (ht:(IntKind.u64.wrap a==IntKind.u64.wrap b)=t) (h:i<12):
 rndA (runL (lis a b c) t i).S (runL (lis a b c) t i).Q=rndL (lis a b c) t (runL (lis a b c) t i).S (runL (lis a b c) t i).Q:=by
 rw [rnd_eq (lgood ha hb hc) (lpr h)]
 by_cases h5:i=5
 ·subst h5
  rw [lcas,ht]
 ·exact lsame _ h h5
theorem lrun (ha:0≤a∧a<256) (hb:0≤b∧b<256) (hc:0≤c∧c<256) (ht:(IntKind.u64.wrap a==IntKind.u64.wrap b)=t):∀i,i≤12→runA (lus a b c) i=runL (lis a b c) t i
 |0,_=>rfl
 |i+1,h=>by
  show Did13.mk _ _ _=Did13.mk _ _ _
  rw [lrun ha hb hc ht i (by omega),lstep ha hb hc ht (by omega)]
theorem noAlu_I {is:List Ins} (hg:∀i∈is,goodI i=true) {Q:Co} (hp:Q.pr.map (·.1)=is.map codeI) (ho:∀i,is[Q.pc]? =some i→i.op<2∨7<i.op):noAlu Q:=by
 intro u r hu _
 have h1:(Q.pr.map (·.1))[Q.pc]? =(is.map codeI)[Q.pc]?:=by rw [hp]
 rw [List.getElem?_map,List.getElem?_map,hu] at h1
 cases hi:is[Q.pc]? with
 |none=>rw [hi] at h1;simp at h1
 |some i=>
  rw [hi] at h1
  simp only [Option.map_some,Option.some.injEq] at h1
  subst h1
  rw [(dec_code (hg i (List.mem_of_getElem? hi))).1]
  exact ho i hi
theorem lal (ha:0≤a∧a<256) (hb:0≤b∧b<256) (hc:0≤c∧c<256) (h:i<12):noAlu (runL (lis a b c) t i).Q:=by
 refine noAlu_I (lgood ha hb hc) (lpr h) ?_
 rw [lpc h]
 rcases lcase h with rfl|rfl|rfl|rfl|rfl|rfl|rfl|rfl|rfl|rfl|rfl|rfl<;>(intro i hi;simp [lis] at hi;subst hi;first |decide|exact .inl (show (1:Int)<2 by decide))
end
end
section
set_option maxRecDepth 100000
attribute [local go_sem ↓] append_appS copy_copS clear_clrS make_mkS cell_row frozen_row heap_drew heap_drewN heap_alloc heap_past heap_setCell heap_putRow loadSe storeSe loadIns storeIns loadEv storeEv loadRg storeRg sec_kd sec_li sec_wo sec_va sec_sn insc_op insc_a insc_b insc_c insc_im evc_kd evc_co evc_li evc_wo evc_va coc_id coc_ru coc_reg coc_pr coc_pc coc_qb coc_wt
attribute [local go_sem] rowCell_some rowFrozen_some rowHas_some rowIn_some rowPart_full rowPut_full rowSet_some run_loadS run_storeS run_appS run_copS run_clrS run_mkS loadW_at storeW_at fit_all fit_le one_int one_bool one_pointer one_slice allOne_list putRow_new ne_size1 ne_size2 wideSe wideIns wideEv wideRg sec_size sec_one sec_lit sec_z sec_ne sec_set0 sec_set1 sec_set2 sec_set3 seZ_kd seZ_li seZ_wo seZ_va seZ_sn insc_size insc_one insc_ne insc_lit insc_z evc_size evc_one evc_ne evc_lit evc_z evc_set0 evc_set1 evc_set2 evc_set3 evc_set4 evZ_kd evZ_co evZ_li evZ_wo evZ_va fold_evc coc_setRu coc_size coc_setPc coc_setWt coc_setReg coc_regs vs_size vs_one
attribute [local simp ↓] heap_drew heap_drewN heap_alloc heap_past heap_setCell heap_putRow
attribute [local simp] rowCell_some rowFrozen_some rowHas_some rowIn_some rowPart_full rowPut_full rowSet_some fit_all putRow_new ne_size1 ne_size2 sec_size insc_size evc_size coc_size coc_setRu coc_setPc coc_setWt coc_setReg vs_size fit_le
attribute [local go_sem ↓] loadMsg storeMsg msc_kd msc_li msc_di msc_ke
attribute [local go_sem] wideMsg msc_size msc_one fold_msc
attribute [local simp] msc_size
attribute [local go_sem ↓] heap_drewN
set_option maxHeartbeats 8000000 in
theorem alone_any (W:World) (hT:Tabs W) {A:Option Addr} {n cap:Nat} {us:List Int} (hs:Sl W 1 A n (us.map (Value.int .u64))) (hn:us.length=n) (h5:n≤4096) (hu:∀u∈us,0≤u∧u<18446744073709551616) (most r:Nat) (hm:most≤1000) (hr:r<most) (hr45:r≤45)
 (hrun:∀i,i<r→(runA us i).Q.ru=true) (hal:∀i,i<r→noAlu (runA us i).Q) (hend:(runA us r).Q.ru=false):
 Calls Tryz.prog 28 #[.slice A n cap,.int .i64 most] W fun e w'=>∃(At Aa:Option Addr) (ct ca:Nat),e=.returned (.tuple #[.slice At (tellsA (runA us r).ev).length ct,.slice Aa (runA us r).ev.length ca,.bool true])∧Sl w' 1 At (tellsA (runA us r).ev).length ((tellsA (runA us r).ev).map (Value.int .u64))∧Sl w' 5 Aa (runA us r).ev.length (cat Ev.enc (runA us r).ev)∧Chg [] W w':=by
 have HT:=Lib.hid hT
 have HQ:=Lib.hid (show Old W 1 from hT.1.elim fun _ h=>h.elim fun _ h=>old h)
 have HS:=Lib.hid hs
 have HRUN:=Lib.hid hrun
 have HAL:=Lib.hid hal
 have HEND:=Lib.hid hend
 have HU:=Lib.hid hu
 have HN:=Lib.hid hn
 have HM:=Lib.hid hm
 have HR:=Lib.hid hr
 have H45:=Lib.hid hr45
 clear hT hs hrun hal hend hu hn hr45
 go_enter Tryz.func28,Tryz.ntmps28
 try dsimp only [List.append]
 go_wp2_with fail
 refine (kplain _).mono ?_
 rintro e w0 ⟨rfl,c0⟩
 have C0:=Lib.hid c0
 clear c0
 go_wp2_with fail
 refine (mnew_none W w0 kc kc_ok C0.out none 0).mono ?_
 rintro e w1 ⟨sy,F0,rfl,hms,hc,_⟩
 have M0:=Lib.hid (show MS W w1 kc sy F0 kS0 from hms)
 have HC0:=Lib.hid (C0.out.trans hc)
 clear hms hc C0
 go_wp2_with fail
 refine (cnew (us:=us) 0 2 (HS.out.chg HC0.out (by simp)) HN.out h5 HU.out (by decide) (by omega) (by omega)).mono ?_
 rintro e w3 ⟨kb,pb,qb,rfl,hk,hp,hq,hc,hco⟩
 have s1:=HC0.out.size
 have hms:=Mem.keep M0.out hc
 have HS0:=Lib.hid (show CS W w3 kc sy F0 kS0 kb pb qb (runA us 0).Q from ⟨hms,hco,fun h=>by have:=Mem.old M0.out kb h;omega,fun h=>by have:=Mem.old M0.out pb h;omega,fun h=>by have:=Mem.old M0.out qb h;omega,by omega,by omega,by omega⟩)
 have HA0:=Lib.hid (show AL W w3 sy F0 (runA us 0).S kb pb qb (runA us 0).Q 1 1 0 none (runA us 0).ev from ⟨HS0.out,Vec.nil ..,.inl rfl,by
  have l1:=HS0.out.lk;have l2:=HS0.out.lp;have l3:=HS0.out.lq;have l4:=Mem.new HS0.out.ms;have l5:=HQ.out.lt
  simp only [List.mem_cons,not_or]
  exact ⟨by omega,by omega,by omega,fun hm=>by have:=l4 _ hm;omega⟩,HQ.out.lt⟩)
 clear hk hp hq hc hco hms s1 HC0 M0 HS0
 go_wp2_with fail
 go_loopw [5,11] (fun a i wr=>∃(j:Nat) (F:List Nat) (be cap:Nat) (Ad:Option Addr),j≤r∧i=.int .i64 j∧a=.slice Ad (runA us j).ev.length cap∧AL W wr sy F (runA us j).S kb pb qb (runA us j).Q 1 be cap Ad (runA us j).ev∧∃cur,Inv kc (18*j) (runA us j).S cur∧NN cur) (fun _ i _=>r-(intOf i).toNat)
 case atStart=>exact ⟨0,F0,_,0,none,by omega,rfl,rfl,HA0.out,_,kI0,kN0⟩
 case round=>
  clear HA0
  obtain ⟨j,F,be,cp,Ad,hj,rfl,rfl,hal,cur,hI,hNN⟩:=hrel
  have HAL1:=Lib.hid hal
  have HI:=Lib.hid hI
  have HNN:=Lib.hid hNN
  clear hal hI hNN
  have g1:(j:Int)<(most:Int):=by omega
  by_cases hlt:j<r
  ·have HJ:=Lib.hid hlt
   have hb45:18*j+18≤828:=by have:=H45.out;omega
   have HB:=Lib.hid hb45
   have HE4:=Lib.hid (show (runA us j).ev.length+4≤90000 by have:=runA_len us j;have:=H45.out;omega)
   clear hlt hj hb45
   obtain ⟨cur1,hw1,cur2,hl2,hi3,hi4,hi5⟩:=inv_rnd HI.out HNN.out HAL1.out.cs.co.ok.pos
   have HW1:=Lib.hid hw1
   have HL2:=Lib.hid hl2
   have HI3:=Lib.hid hi3
   have HI4:=Lib.hid hi4
   have HI5:=Lib.hid hi5
   clear hw1 hl2 hi3 hi4 hi5
   have HR2:=Lib.hid (fun li wo=>Roomy.of (HI.out.loadM ((runA us j).Q.id) li wo) (by have:=HB.out;omega))
   have hru:=HRUN.out j HJ.out
   go_wp2_with (go_at_call 15;refine (cruns HAL1.out.cs.co.own).mono ?_;rintro e w4 ⟨rfl,rfl⟩;rw [hru];clear hru)
   refine (xexec HAL1.out.cs HI.out HNN.out (by have:=HB.out;omega) (Roomy.of HI.out (by have:=HB.out;omega)) HR2.out HT.out.1 (HAL.out j HJ.out)).mono ?_
   rintro e w4 ⟨v1,F1,rfl,hev,hcs,hch,hF⟩
   have hl1:=execC_len (runA us j).S (runA us j).Q
   obtain ⟨be1,cp1,cx1,Ad1,Ax1,w5,rfl,e5,hal⟩:=HAL1.out.told hev hcs hch hF (by have:=HE4.out;omega)
   obtain ⟨l1,hl1e⟩:∃l1,l1=(runA us j).ev++(execC kc (runA us j).S (runA us j).Q).ev:=⟨_,rfl⟩
   rw [←hl1e] at hal
   have HL1E:=Lib.hid hl1e
   have HAL2:=Lib.hid hal
   have HB1:=Lib.hid (show l1.length≤(runA us j).ev.length+2 by rw [hl1e,List.length_append];omega)
   have hlen:(runA us j).ev.length+(execC kc (runA us j).S (runA us j).Q).ev.length=l1.length:=by rw [hl1e,List.length_append]
   clear hal hev hcs hch hF HAL1 HR2 hl1e
   go_wp2_with fail
   clear e5 hlen
   refine (edrain HAL2.out.cs HW1.out.inv (by have:=HB.out;omega) (Roomy.of HW1.out.inv (by have:=HB.out;omega)) HT.out.1).mono ?_
   rintro e w6 ⟨v2,F2,rfl,hev,hcs,hch,hF⟩
   have hl2:=drainC_len (execC kc (runA us j).S (runA us j).Q).S (execC kc (runA us j).S (runA us j).Q).Q
   obtain ⟨be2,cp2,cx2,Ad2,Ax2,w7,rfl,e7,hal⟩:=HAL2.out.told hev hcs hch hF (by have:=HE4.out;have:=HB1.out;omega)
   obtain ⟨l2,hl2e⟩:∃l2,l2=l1++(drainC kc (execC kc (runA us j).S (runA us j).Q).S (execC kc (runA us j).S (runA us j).Q).Q).ev:=⟨_,rfl⟩
   rw [←hl2e] at hal
   have HL2E:=Lib.hid hl2e
   have HAL3:=Lib.hid hal
   have HB2:=Lib.hid (show l2.length≤l1.length+1 by rw [hl2e,List.length_append];omega)
   have hlen:l1.length+(drainC kc (execC kc (runA us j).S (runA us j).Q).S (execC kc (runA us j).S (runA us j).Q).Q).ev.length=l2.length:=by rw [hl2e,List.length_append]
   clear hal hev hcs hch hF HAL2 hl2e
   go_wp2_with fail
   clear e7 hlen
   refine (uup HAL3.out.cs.ms HL2.out.inv (by have:=HB.out;omega) (Roomy.of HL2.out.inv (by have:=HB.out;omega)) HT.out.1 0).mono ?_
   rintro e w8 ⟨rfl,m8⟩
   obtain ⟨F3,hal⟩:=HAL3.out.sys m8
   have HAL4:=Lib.hid hal
   clear hal m8 HAL3
   go_wp2_with fail
   refine (uanswer HAL4.out.cs.ms HI3.out (by have:=HB.out;omega) (Roomy.of HI3.out (by have:=HB.out;omega)) HT.out.1 0).mono ?_
   rintro e w9 ⟨rfl,m9⟩
   obtain ⟨F4,hal⟩:=HAL4.out.sys m9
   have HAL5:=Lib.hid (show AL W w9 sy F4 (rA3 (runA us j).S (runA us j).Q) kb pb qb (rA2 (runA us j).S (runA us j).Q) 1 be2 cp2 Ad2 _ from hal)
   clear hal m9 HAL4
   go_wp2_with fail
   refine (uhear HAL5.out.cs.ms HI4.out (by have:=HB.out;omega) (Roomy.of HI4.out (by have:=HB.out;omega)) HT.out 0).mono ?_
   rintro e w10 ⟨rfl,m10⟩
   obtain ⟨F5,hal⟩:=HAL5.out.sys m10
   have HAL6:=Lib.hid hal
   clear hal m10 HAL5
   generalize hmm:(hearM kc (rA3 (runA us j).S (runA us j).Q) 0).2.m=mm
   have HMM:=Lib.hid hmm
   clear hmm
   go_upto_region 13 with fail
   have HAL7:=Lib.hid (HAL6.out.keep0 ((Chg.refl [] w10).alloc (.cells (msc mm) 50)))
   have hbx:(w10.alloc (.cells (msc mm) 50)).heap[w10.heap.size]? =some (.cells (msc mm) 50 (0,0)):=by simp
   clear HAL6
   generalize w10.alloc (.cells (msc mm) 50)=w11 at *
   generalize w10.heap.size=pm at *
   go_wp2_with fail
   refine (dhear HAL7.out.cs.co HAL7.out.cs.old mm).mono ?_
   intro e w12 hd
   obtain ⟨v3,F6,rfl,hev,hcs,hch,hF⟩:=HAL7.out.cs.ofCo hd
   have hl3:=hearC_len (rA2 (runA us j).S (runA us j).Q) mm
   obtain ⟨be3,cp3,cx3,Ad3,Ax3,w13,rfl,e13,hal⟩:=HAL7.out.told hev hcs hch hF (by have:=HE4.out;have:=HB1.out;have:=HB2.out;omega)
   have hev4:l2++(hearC (rA2 (runA us j).S (runA us j).Q) mm).2=(runA us (j+1)).ev:=by
    rw [HL2E.out,HL1E.out,←HMM.out,List.append_assoc,List.append_assoc];rfl
   have hlen:l2.length+(hearC (rA2 (runA us j).S (runA us j).Q) mm).2.length=(runA us (j+1)).ev.length:=by rw [←hev4,List.length_append]
   rw [hev4] at hal
   have HAL8:=Lib.hid hal
   clear hal hev hcs hch hF HAL7 hd hbx hev4
   go_wp2_with fail
   clear e13 hlen
   have HAL9:=HAL8.out
   have HAL0:=Lib.hid (show AL W w13 sy F6 (pdA 0 (hearM kc (rA3 (runA us j).S (runA us j).Q) 0).1) kb pb qb (runA us (j+1)).Q 1 be3 cp3 Ad3 (runA us (j+1)).ev from by
    have:=HAL9
    rw [←HMM.out] at this
    exact this)
   clear HAL8 HAL9 hl1 hl2 hl3
   go_loopw [14] (fun i wr=>∃(k:Nat) (F:List Nat),k≤6∧i=.int .i64 k∧AL W wr sy F (pdA k (hearM kc (rA3 (runA us j).S (runA us j).Q) 0).1) kb pb qb (runA us (j+1)).Q 1 be3 cp3 Ad3 (runA us (j+1)).ev) (fun i _=>6-(intOf i).toNat)
   case atStart=>exact ⟨0,F6,by omega,rfl,HAL0.out⟩
   case round=>
    clear HAL0
    obtain ⟨k,F,hk,rfl,hal⟩:=hrel
    have HAL1:=Lib.hid hal
    clear hal
    by_cases hk6:k<6
    ·have q1:(k:Int)<6:=by omega
     have HK6:=Lib.hid hk6
     have hiA:=HI5.out k hk
     have HIA:=Lib.hid hiA
     clear hk hk6 hiA
     go_wp2_with fail
     refine (upush HAL1.out.cs.ms HIA.out (by have:=HB.out;have:=HK6.out;omega) (Roomy.of HIA.out (by have:=HB.out;have:=HK6.out;omega)) HT.out.1 k).mono ?_
     rintro e w14 ⟨rfl,m14⟩
     obtain ⟨F7,hal⟩:=HAL1.out.sys m14
     have HAL2:=Lib.hid hal
     have HIB:=Lib.hid (HIA.out.pushM (k:Int))
     clear hal m14 HAL1
     go_wp2_with fail
     refine (udrain HAL2.out.cs.ms HIB.out (by have:=HB.out;have:=HK6.out;omega) (Roomy.of HIB.out (by have:=HB.out;have:=HK6.out;omega)) HT.out.1 k).mono ?_
     rintro e w15 ⟨rfl,m15⟩
     obtain ⟨F8,hal⟩:=HAL2.out.sys m15
     have HAL3:=Lib.hid hal
     clear hal m15 HAL2
     go_wp2_with fail
     go_roundw
     case rel=>exact ⟨k+1,F8,by have:=HK6.out;omega,by go_num,HAL3.out⟩
     case measure=>have:=HK6.out;simp [intOf];omega
    ·obtain rfl:k=6:=by omega
     have HIF:=Lib.hid (HI5.out 6 (by omega))
     clear hk hk6
     go_wp2_with fail
     go_roundw
     case rel=>exact ⟨j+1,F,be3,cp3,Ad3,by have:=HJ.out;omega,by go_num,rfl,HAL1.out,cur2,by have:=HIF.out;exact this,HL2.out.nn⟩
     case measure=>have:=HJ.out;simp [intOf];omega
  ·have:r=j:=by omega
   subst this
   have hru:=HEND.out
   clear hlt hj
   go_wp2_with (go_at_call 15;refine (cruns HAL1.out.cs.co.own).mono ?_;rintro e w4 ⟨rfl,rfl⟩;rw [hru])
   have HSE:=Lib.hid (show Sl wr 5 Ad (runA us r).ev.length (cat Ev.enc (runA us r).ev) from HAL1.out.v.sl Ev.len)
   have HCE:=Lib.hid HAL1.out.all
   have HLE:=Lib.hid (show (runA us r).ev.length≤90000 by have:=runA_len us r;have:=H45.out;omega)
   have HQR:=Lib.hid HAL1.out.oq
   have HKB:=Lib.hid HAL1.out.cs.co.own
   clear hru HAL1 HI HNN
   generalize hEV:(runA us r).ev=ev at *
   generalize wr=wz at *
   go_wp2_with fail
   go_loopw [4,15] (fun o i w5=>∃(k be' cap':Nat) (A':Option Addr),k≤ev.length∧i=.int .i64 k∧o=.slice A' (tellsA (ev.take k)).length cap'∧Vec 1 43 uenc w5 1 be' A' cap' (tellsA (ev.take k))∧(be'=1∨wz.heap.size≤be')∧Chg [] wz w5) (fun _ i _=>ev.length-(intOf i).toNat)
   case atStart=>exact ⟨0,_,0,none,by omega,rfl,rfl,Vec.nil ..,.inl rfl,Chg.refl _ _⟩
   case round=>
    obtain ⟨k,be',cap',A',hk,rfl,rfl,hv,hbe,hc⟩:=hrel
    have HV:=Lib.hid hv
    have HBE:=Lib.hid hbe
    have HC:=Lib.hid hc
    clear hv hbe hc
    by_cases hlt:k<ev.length
    ·obtain ⟨x,hx⟩:∃x,ev[k]? =some x:=⟨_,List.getElem?_eq_getElem hlt⟩
     have HX:=Lib.hid hx
     have HLT:=Lib.hid hlt
     have z1:(k:Int)<(ev.length:Int):=by omega
     have z0:(0:Int)≤(k:Int):=by omega
     have z2:(ev.length:Int)≤90000:=by have:=HLE.out;omega
     obtain ⟨b0,o0,hA⟩:=HSE.out.addr (by omega)
     subst hA
     obtain ⟨cA,tA,fA,hA,hcell,_⟩:=HSE.out.elem (by omega) hlt (cat_part Ev.len hx)
     have c0:=hcell 0 (by omega)
     have c4:=hcell 4 (by omega)
     rw [Nat.add_zero] at c0
     rw [show (Ev.enc x)[0]? =some (.int .i64 x.kd) from rfl] at c0
     rw [show (Ev.enc x)[4]? =some (.int .u64 x.va) from rfl] at c4
     have hAr:=HC.out.keep hA (by simp)
     have TT:=Lib.hid (tellsA_take hx)
     clear hx hlt hA hcell
     by_cases hk8:x.kd=8
     ·have y1:(x.kd==8)=true:=by simpa using hk8
      have TT2:=TT.out
      rw [if_pos hk8] at TT2
      have HTT:=Lib.hid TT2
      clear hk8 TT TT2
      have c2:Chg [] wr (wr.alloc (.cells #[.int .u64 x.va] 43)):=(Chg.refl [] wr).alloc _
      have hb2:(wr.alloc (.cells #[.int .u64 x.va] 43)).heap[wr.heap.size]? =some (.cells #[.int .u64 x.va] 43 (0,0)):=by simp
      have hsl:Sl (wr.alloc (.cells #[.int .u64 x.va] 43)) 1 (some ⟨wr.heap.size,0,none⟩) 1 (cat uenc [x.va]):=⟨rfl,.inr ⟨wr.heap.size,0,_,_,(0,0),rfl,hb2,rfl⟩⟩
      have htl:(tellsA (ev.take k)).length≤90000:=by
       unfold tellsA
       rw [List.length_map]
       have:=List.length_filter_le (fun e:Ev=>e.kd==8) (ev.take k)
       rw [List.length_take] at this
       have:=HLE.out
       omega
      obtain ⟨be2,cp2,A2,w2,happ,hv2,hbe2,hc2⟩:=Vec.acc (ty:=37) eltU (w0:=wz) (HC.out.trans c2) (HV.out.keep c2 (by simp)) HBE.out HQR.out hsl (c:=1) rfl (by omega) (by simp only [maxLen];omega)
      have HV2:=Lib.hid hv2
      have HBE2:=Lib.hid hbe2
      have HC2:=Lib.hid hc2
      have oA:=old hAr
      clear hv2 hbe2 hc2 hsl hb2 c2 htl
      go_wp2_with fail
      go_roundw
      case rel=>exact ⟨k+1,be2,cp2,A2,by have:=HLT.out;omega,by go_num,by rw [HTT.out,List.length_append];rfl,by rw [HTT.out];exact HV2.out,HBE2.out,HC2.out⟩
      case measure=>have:=HLT.out;simp [intOf];omega
     ·have y1:(x.kd==8)=false:=by simpa using hk8
      have TT2:=TT.out
      rw [if_neg hk8] at TT2
      have HTT:=Lib.hid TT2
      clear hk8 TT TT2
      go_wp2_with fail
      go_roundw
      case rel=>exact ⟨k+1,be',cap',A',by have:=HLT.out;omega,by go_num,by rw [HTT.out],by rw [HTT.out];exact HV.out,HBE.out,HC.out⟩
      case measure=>have:=HLT.out;simp [intOf];omega
    ·obtain rfl:k=ev.length:=by omega
     have hvf:=HV.out
     rw [List.take_length] at hvf ⊢
     have hru:=HEND.out
     have hkb:=HC.out.keep HKB.out (by simp)
     rw [hru] at hkb
     have HVF:=Lib.hid hvf
     have HSF:=Lib.hid (HSE.out.chg HC.out (by simp))
     have HCF:=Lib.hid (HCE.out.trans HC.out)
     clear hvf hru HV HSE HC HCE HBE
     go_wp2_with (go_at_call 15;refine (cruns hkb).mono ?_;rintro e w6 ⟨rfl,rfl⟩)
     go_ret3
     subst hEV
     exact ⟨_,_,_,_,rfl,by have:=HVF.out.sl uenc_len;rw [cat_uenc] at this;exact this,HSF.out,HCF.out⟩
end
section
set_option maxRecDepth 100000
attribute [local go_sem ↓] append_appS copy_copS clear_clrS make_mkS cell_row frozen_row heap_drew heap_drewN heap_alloc heap_past heap_setCell heap_putRow loadSe storeSe loadIns storeIns loadEv storeEv loadRg storeRg sec_kd sec_li sec_wo sec_va sec_sn insc_op insc_a insc_b insc_c insc_im evc_kd evc_co evc_li evc_wo evc_va coc_id coc_ru coc_reg coc_pr coc_pc coc_qb coc_wt
attribute [local go_sem] rowCell_some rowFrozen_some rowHas_some rowIn_some rowPart_full rowPut_full rowSet_some run_loadS run_storeS run_appS run_copS run_clrS run_mkS loadW_at storeW_at fit_all fit_le one_int one_bool one_pointer one_slice allOne_list putRow_new ne_size1 ne_size2 wideSe wideIns wideEv wideRg sec_size sec_one sec_lit sec_z sec_ne sec_set0 sec_set1 sec_set2 sec_set3 seZ_kd seZ_li seZ_wo seZ_va seZ_sn insc_size insc_one insc_ne insc_lit insc_z evc_size evc_one evc_ne evc_lit evc_z evc_set0 evc_set1 evc_set2 evc_set3 evc_set4 evZ_kd evZ_co evZ_li evZ_wo evZ_va fold_evc coc_setRu coc_size coc_setPc coc_setWt coc_setReg coc_regs vs_size vs_one
attribute [local simp ↓] heap_drew heap_drewN heap_alloc heap_past heap_setCell heap_putRow
attribute [local simp] rowCell_some rowFrozen_some rowHas_some rowIn_some rowPart_full rowPut_full rowSet_some fit_all putRow_new ne_size1 ne_size2 sec_size insc_size evc_size coc_size coc_setRu coc_setPc coc_setWt coc_setReg vs_size fit_le
attribute [local go_sem ↓] heap_drewN
attribute [local go_sem] insc_set0 insc_set1 insc_set2 insc_set3 insc_set4 insZ_op insZ_a insZ_b insZ_c insZ_im
theorem kwords_same (A B:Option Addr) (n c c':Nat) (xs:List Int) (w:World) (h1:Sl w 1 A n (xs.map (Value.int .u64))) (h2:Sl w 1 B n (xs.map (Value.int .u64))) (hn:n≤100000):
 Calls Tryz.prog 29 #[.slice A n c,.slice B n c'] w fun e w'=>e=.returned (.bool true)∧Chg [] w w':=by
 have H1:=Lib.hid h1
 have H2:=Lib.hid h2
 have HL:=Lib.hid (show xs.length=n by simpa using h1.1)
 clear h1 h2
 go_enter Tryz.func29,Tryz.ntmps29
 go_wp2
 go_loopw [5] (fun i wr=>∃k:Nat,k≤n∧i=.int .i64 k∧Chg [] w wr) (fun i _=>n-(intOf i).toNat)
 case atStart=>exact ⟨0,by omega,rfl,Chg.refl _ _⟩
 case round=>
  obtain ⟨k,hk,rfl,hc⟩:=hrel
  by_cases hlt:k<n
  ·obtain ⟨b,o,rfl⟩:=H1.out.addr (by omega)
   obtain ⟨b',o',rfl⟩:=H2.out.addr (by omega)
   obtain ⟨cs,t,f,hb,hi⟩:=(H1.out.chg hc (by simp)).cell hlt
   obtain ⟨cs',t',f',hb',hi'⟩:=(H2.out.chg hc (by simp)).cell hlt
   obtain ⟨y,hy⟩:∃y,(xs.map (Value.int .u64))[k]? =some (.int .u64 y):=⟨xs[k]'(by rw [HL.out];exact hlt),by rw [List.getElem?_map,List.getElem?_eq_getElem (by rw [HL.out];exact hlt)];rfl⟩
   rw [hy] at hi hi'
   have g1:(k:Int)<(n:Int):=by omega
   have g0:(0:Int)≤(k:Int):=by omega
   have g2:(n:Int)≤100000:=by omega
   clear hy
   go_wp2
   go_quiet (fail)
   go_wp2
   go_roundw
   case rel=>exact ⟨k+1,by omega,by go_num,hc.drewN _⟩
   case measure=>simp [intOf];omega
  ·have:k=n:=by omega
   subst this
   go_wp2
   go_ret
   exact ⟨rfl,hc⟩
theorem u64_small {x:Int} (h0:0≤x) (h1:x<18446744073709551616):IntKind.u64.wrap x=x:=by
 simp [IntKind.wrap,IntKind.signed,IntKind.bits]
 omega
theorem lword {is:List Ins} (hg:∀i∈is,goodI i=true):∀u∈is.map codeI,0≤u∧u<18446744073709551616:=by
 intro u hu
 obtain ⟨i,hi,rfl⟩:=List.mem_map.1 hu
 exact (dec_code (hg i hi)).2.2
set_option maxHeartbeats 8000000 in
theorem clocks (W:World) (hT:Tabs W) (a b c:Nat) (ha:a<256) (hb:b<256) (hc:c<256):Calls Tryz.prog 7 #[.int .u8 a,.int .u8 b,.int .u8 c] W fun e w'=>e=.returned (.bool true)∧Chg [] W w':=by
 have HT:=Lib.hid hT
 have HQ:=Lib.hid (show Old W 1 from hT.1.elim fun _ h=>h.elim fun _ h=>old h)
 have ha1:(a:Int)<256:=by omega
 have hb1:(b:Int)<256:=by omega
 have hc1:(c:Int)<256:=by omega
 have ha0:0≤(a:Int):=by omega
 have hb0:0≤(b:Int):=by omega
 have hc0:0≤(c:Int):=by omega
 clear hT
 go_enter Tryz.func7,Tryz.ntmps7
 try dsimp only [List.append]
 go_upto_region 1 with (fail)
 go_step
 iterate 17 (first |go_values|go_skip|go_guarded|go_step)
 go_at_K
 iterate 38 (first |go_values|go_skip|go_guarded|go_step)
 refine wp_value (v:=.slice (some ⟨W.heap.size,0,none⟩) 12 12) (w':=W.alloc (.cells (cat Ins.enc (lis a b c)).toArray 33)) (by kernel_rfl) ?_
 go_at_K
 have cW:Chg [] W (W.alloc (.cells (cat Ins.enc (lis a b c)).toArray 33)):=(Chg.refl [] W).alloc _
 have hbb:(W.alloc (.cells (cat Ins.enc (lis a b c)).toArray 33)).heap[W.heap.size]? =some (.cells (cat Ins.enc (lis a b c)).toArray 33 (0,0)):=by simp
 have hsl:Sl (W.alloc (.cells (cat Ins.enc (lis a b c)).toArray 33)) 5 (some ⟨W.heap.size,0,none⟩) 12 (cat Ins.enc (lis a b c)):=⟨rfl,.inr ⟨W.heap.size,0,_,_,(0,0),rfl,hbb,rfl⟩⟩
 have HSL:=Lib.hid hsl
 have HCW:=Lib.hid cW
 have HG:=Lib.hid (lgood (a:=a) (b:=b) (c:=c) ⟨ha0,ha1⟩ ⟨hb0,hb1⟩ ⟨hc0,hc1⟩)
 clear hsl cW hbb
 generalize W.alloc (.cells (cat Ins.enc (lis a b c)).toArray 33)=w1 at *
 generalize W.heap.size=p1 at *
 go_wp2_with fail
 refine (rcode (q:=1) HSL.out rfl (by omega) HG.out (HQ.out.chg HCW.out)).mono ?_
 rintro e w2 ⟨be,A',c',rfl,hv,_,hc2⟩
 have HC2:=Lib.hid (HCW.out.trans hc2)
 have hs2:Sl w2 1 A' 12 ((lus a b c).map (Value.int .u64)):=by
  have:=Vec.sl uenc_len hv
  rw [cat_uenc] at this
  exact this
 have HS2:=Lib.hid hs2
 clear hv hc2 hs2 HSL HCW
 obtain ⟨t,ht⟩:∃t,(IntKind.u64.wrap (a:Int)==IntKind.u64.wrap (b:Int))=t:=⟨_,rfl⟩
 have HRUN:=Lib.hid (lrun (a:=a) (b:=b) (c:=c) ⟨ha0,ha1⟩ ⟨hb0,hb1⟩ ⟨hc0,hc1⟩ ht)
 have HTT:=Lib.hid ht
 clear ht
 go_wp2_with fail
 refine (alone_any w2 ⟨HT.out.1.keep HC2.out (by simp),HT.out.2.keep HC2.out (by simp)⟩ HS2.out rfl (by omega) (lword HG.out) 400 12 (by omega) (by omega) (by omega) (fun i hi=>by rw [HRUN.out i (by omega)];exact lru hi) (fun i hi=>by rw [HRUN.out i (by omega)];exact lal ⟨ha0,ha1⟩ ⟨hb0,hb1⟩ ⟨hc0,hc1⟩ hi) (by rw [HRUN.out 12 (by omega)];exact lend)).mono ?_
 rintro e w3 ⟨At,Aa,ct,ca,rfl,hst,_,hc3⟩
 have HC3:=Lib.hid (HC2.out.trans hc3)
 rw [HRUN.out 12 (by omega)] at hst ⊢
 clear hc3 HC2 HS2
 have wa:=u64_small ha0 (show (a:Int)<18446744073709551616 by omega)
 have wb:=u64_small hb0 (show (b:Int)<18446744073709551616 by omega)
 have wc:=u64_small hc0 (show (c:Int)<18446744073709551616 by omega)
 by_cases hab:a=b
 ·subst hab
  have htr:t=true:=by rw [←HTT.out];simp
  subst htr
  have htl:tellsA (runL (lis a a c) true 12).ev=[(a:Int),(c:Int),(c:Int)+(c:Int)]:=by
   rw [ltellT,wa,wc,u64_small (by omega) (by omega)]
  rw [htl] at hst ⊢
  have HST:=Lib.hid (show Sl w3 1 At 3 ([(a:Int),(c:Int),(c:Int)+(c:Int)].map (Value.int .u64)) from hst)
  have n3:([(a:Int),(c:Int),(c:Int)+(c:Int)]:List Int).length=3:=rfl
  rw [n3]
  clear hst htl n3 wa wb wc HRUN
  have heq:((a:Int)==(a:Int))=true:=by simp
  go_wp2_with fail
  have c4:=(Chg.refl [] w3).alloc (.cells #[.int .u64 a,.int .u64 (c:Int),.int .u64 ((c:Int)+(c:Int))] 43)
  have hb4:(w3.alloc (.cells #[.int .u64 a,.int .u64 (c:Int),.int .u64 ((c:Int)+(c:Int))] 43)).heap[w3.heap.size]? =some (.cells #[.int .u64 a,.int .u64 (c:Int),.int .u64 ((c:Int)+(c:Int))] 43 (0,0)):=by simp
  refine (kwords_same At _ 3 ct 3 [(a:Int),(c:Int),(c:Int)+(c:Int)] _ (HST.out.chg c4 (by simp)) ⟨rfl,.inr ⟨w3.heap.size,0,_,_,(0,0),rfl,hb4,rfl⟩⟩ (by omega)).mono ?_
  rintro e w4 ⟨rfl,c5⟩
  have HC4:=Lib.hid (HC3.out.trans (c4.trans c5))
  clear c4 hb4 c5 HST HC3
  go_wp2_with fail
  refine (cwakes _ (HT.out.1.keep HC4.out (by simp))).mono ?_
  rintro e w5 ⟨rfl,c6⟩
  have HC5:=Lib.hid (HC4.out.trans c6)
  clear c6
  go_wp2_with fail
  go_ret
  exact ⟨rfl,HC5.out⟩
 ·have htr:t=false:=by
   rw [←HTT.out,wa,wb]
   simp;omega
  subst htr
  have htl:tellsA (runL (lis a b c) false 12).ev=[(a:Int),(a:Int),(a:Int)+(c:Int)]:=by
   rw [ltellF,wa,wc,u64_small (by omega) (by omega)]
  rw [htl] at hst ⊢
  have HST:=Lib.hid (show Sl w3 1 At 3 ([(a:Int),(a:Int),(a:Int)+(c:Int)].map (Value.int .u64)) from hst)
  have n3:([(a:Int),(a:Int),(a:Int)+(c:Int)]:List Int).length=3:=rfl
  rw [n3]
  clear hst htl n3 wa wb wc HRUN
  have heq:((a:Int)==(b:Int))=false:=by simp;omega
  have heq2:(a==b)=false:=by simpa using hab
  go_wp2_with fail
  have c4:=(Chg.refl [] w3).alloc (.cells #[.int .u64 a,.int .u64 (a:Int),.int .u64 ((a:Int)+(c:Int))] 43)
  have hb4:(w3.alloc (.cells #[.int .u64 a,.int .u64 (a:Int),.int .u64 ((a:Int)+(c:Int))] 43)).heap[w3.heap.size]? =some (.cells #[.int .u64 a,.int .u64 (a:Int),.int .u64 ((a:Int)+(c:Int))] 43 (0,0)):=by simp
  refine (kwords_same At _ 3 ct 3 [(a:Int),(a:Int),(a:Int)+(c:Int)] _ (HST.out.chg c4 (by simp)) ⟨rfl,.inr ⟨w3.heap.size,0,_,_,(0,0),rfl,hb4,rfl⟩⟩ (by omega)).mono ?_
  rintro e w4 ⟨rfl,c5⟩
  have HC4:=Lib.hid (HC3.out.trans (c4.trans c5))
  clear c4 hb4 c5 HST HC3
  go_wp2_with fail
  refine (cwakes _ (HT.out.1.keep HC4.out (by simp))).mono ?_
  rintro e w5 ⟨rfl,c6⟩
  have HC5:=Lib.hid (HC4.out.trans c6)
  clear c6
  go_wp2_with fail
  go_ret
  exact ⟨rfl,HC5.out⟩
end
end Go.Proofs.YtcjoinhngdfdmaaGreatDoor
