/- What a statement of layer 13 needs further: by parts. No condition. -/
import Derived.Test.YtcjoinhngdfdmaaGreatDoorCFi
section
namespace Go.Proofs.YtcjoinhngdfdmaaGreatDoor
open Go.RowKit
set_option linter.unusedVariables false
set_option maxHeartbeats 1000000
set_option maxRecDepth 100000
attribute [local go_sem ↓] append_appS copy_copS clear_clrS make_mkS cell_row frozen_row loadLine storeLine loadSlot storeSlot heap_drew heap_drewN heap_alloc heap_past heap_setCell heap_putRow vs_get slc_st slc_li slc_us slice_slS loadMsg storeMsg loadHas storeHas msc_kd msc_li msc_di msc_ke
attribute [local go_sem] rowCell_some rowFrozen_some rowHas_some rowIn_some rowPart_full rowPart_lit rowPut_full rowPut_lit rowSet_some size_putRow vs_size vs_one wideLine wideSlot run_loadS run_storeS run_appS run_copS run_clrS run_mkS loadW_at storeW_at fit_all fit_le one_int one_bool one_pointer one_slice allOne_list putRow_new ne_size1 ne_size2 ne_size3 ne_size4 zero8_length lines_nil line_eq lit8 slc_size slc_one slc_part slc_in fold_slt fold_slc slc_set_us wideMsg wideHas run_slS msc_size msc_one msc_part msc_in fold_msc msc_putDi msc_putKe msc_putX msc_has ms4_lit
attribute [local simp ↓] heap_drew heap_drewN heap_alloc heap_past heap_setCell heap_putRow
attribute [local simp] rowCell_some rowFrozen_some rowHas_some rowIn_some rowPart_full rowPart_lit rowPut_full rowPut_lit rowSet_some size_putRow vs_size fit_all putRow_new ne_size1 ne_size2 ne_size3 ne_size4 zero8_length slc_size msc_size msc_putDi msc_putKe msc_putX msc_has fit_le
attribute [local go_sem ↓] ec_he ec_di ec_ow ec_sh ec_bu ec_by ec_wa sc_to
attribute [local go_sem] mi_and mi_or mi_not mi_beq0 mi_bne0 ec_size ec_one ec_part ec_in ec_has ec_setDi ec_setOw ec_setSh ec_setBu ec_setBy ec_setWa ec_setSh0 ec_setWa0 ec_putM sc_size sc_one sc_part sc_in
attribute [local simp] ec_size sc_size ec_setDi ec_setOw ec_setSh ec_setBu ec_setBy ec_setWa ec_setSh0 ec_setWa0 ec_putM
attribute [local go_sem ↓] loadEn storeEn loadSd storeSd en_z0
attribute [local go_sem] wideEn wideSd fold_sc size11 putRow_newB putRow_newC ms5_lit
attribute [local simp] en_z0 putRow_newB putRow_newC fit_le ec_has
attribute [local go_sem ↓] mlitZ zenc_po zenc_en zenc_q
attribute [local simp] mlitZ
section
variable {W:World} {c:Cg} {z:Lay} {L:List (Po×Pt)} {en:List En} {es:List Ent} {xs:List Int}
theorem zup_none (i:Nat) (p:Po) (x:Pt) (w:World) (h:Msd W w c z L en es xs) (hy:L[i]? =some (p,x)) (hx:x.up=[]):Calls Tryz.prog 19 #[.pointer (some ⟨z.sy,0,none⟩),.int .i64 i] w fun r w'=>r=.returned (.int .i64 14)∧Chg [] w w':=by
 have hi:i<c.co:=by rw [←h.cores];exact (List.getElem?_eq_some_iff.1 hy).1
 have HG:=Lib.hid (h.head_up hy (by rw [hx];simp))
 rw [hx,headM_nil,show someB ([]:List Ms)=false from rfl] at HG
 have HH:=Lib.hid h
 have HI:=Lib.hid hi
 clear h hy hi hx
 go_enter Tryz.func19,Tryz.ntmps19
 try dsimp only [List.append]
 go_wp2_with (first |(go_at_call 53;refine (port_ok i _ HH.out HI.out).mono ?_;rintro e w' ⟨rfl,rfl⟩))
 refine HG.out.mono ?_
 rintro r w2 ⟨rfl,c2⟩
 have HC:=Lib.hid c2
 clear c2
 go_wp2_with fail
 go_ret
 exact ⟨rfl,HC.out.alloc _⟩
theorem size_neE {w:World} {b:Nat} (h:Old w b):¬b=w.heap.size:=by have:=h.lt;omega
section
variable {w w5 w6:World} {z':Lay} {b3:Nat} {m:Ms} {e':En} {ds:List Sd} {v:Int} {A:Option Addr} {na:Nat}
theorem NewZ.putA {b8:Nat} (hWw:W.heap.size≤w.heap.size) (n3:b3∉z'.all L) (P:MTo W w c z L z' L en es xs w5) (hc:Chg [] w5 w6) (r8:w5.heap[b8]? =some (.cells (ec enZ) 129 (0,0))) (r3:w5.heap[b3]? =some (.cells (msc m) 50 (0,0))) (h8:w.heap.size≤b8) (n8:b8∉z'.all L) (h38:b8≠b3)
 (hs:Sl w6 13 A ds.length (cat Sd.enc ds)) (hA:∀a,A=some a→w5.heap.size≤a.block):NewZ W w c z z' L en es xs b3 m e' ds v (.pointer (some ⟨b8,0,none⟩)) (.slice A ds.length na) (.int .i64 v) (putRow w6 b8 0 (ec e')):=by
 refine NewZ.put hWw n3 (P.trans (P.1.stay hc)) (hc.keep r8 (by simp)) (hc.keep r3 (by simp)) h8 n8 h38 hs fun a ha=>?_
 have h1:=hA a ha
 have h2:=lt_heap r8
 exact ⟨Nat.le_trans P.2.1.size h1,fun hm=>by have:=P.1.old _ hm;omega,by omega⟩
theorem NewZ.putB {o:Obj} (hWw:W.heap.size≤w.heap.size) (n3:b3∉z'.all L) (P:MTo W w c z L z' L en es xs w5) (hc:Chg [] (w5.alloc (.cells (ec enZ) 129)) w6) (r3:w5.heap[b3]? =some (.cells (msc m) 50 (0,0)))
 (hs:Sl w6 13 A ds.length (cat Sd.enc ds)) (hA:∀a,A=some a→(w5.alloc o).heap.size≤a.block):NewZ W w c z z' L en es xs b3 m e' ds v (.pointer (some ⟨w5.heap.size,0,none⟩)) (.slice A ds.length na) (.int .i64 v) (putRow w6 w5.heap.size 0 (ec e')):=by
 have P2:=P.trans (P.1.stay ((Chg.refl [] w5).alloc (.cells (ec enZ) 129)))
 have n8:w5.heap.size∉z'.all L:=fun hm=>by have:=P.1.old _ hm;omega
 refine NewZ.putA hWw n3 P2 hc (by simp) (((Chg.refl [] w5).alloc _).keep r3 (by simp)) P.2.1.size n8 (by have:=lt_heap r3;omega) hs fun a ha=>?_
 have h1:=hA a ha
 simpa using h1
end
theorem zup_go (i k:Nat) (p:Po) (x:Pt) (m:Ms) (rest:List Ms) (e e':En) (l:List Int) (hl:l.length=8) (ds:List Sd) (v:Int) (w:World) (h:Msd W w c z L en es xs) (hT:Tab W) (hy:L[i]? =some (p,x)) (hx:x.up=m::rest) (hlu:x.up.length≤1000) (hk:m.li=(k:Int)) (he:en[k]? =some e) (hX:ln (over xs es) k=l)
 (hr:askE (hereE e l hl) i m=((e',ds),v)) (hto:∀d∈ds,0≤d.to∧d.to<c.co∧mg d.m=true) (M:Nat) (hM:∀x∈ports L,x.dn.length≤M) (hMn:M+ds.length≤1000):
 Calls Tryz.prog 19 #[.pointer (some ⟨z.sy,0,none⟩),.int .i64 i] w fun r w'=>(v≠0∧r=.returned (.int .i64 v)∧∃be',MTo W w c z L {z with be:=be'} L en es xs w')∨
  (v=0∧r=.returned (.int .i64 0)∧∃be' ks' L',MTo W w c z L {z with be:=be',ks:=ks'} L' (en.set k e') es xs w'∧ports L'=sendP ((ports L).set i {x with up:=rest}) ds):=by
 have hi:i<c.co:=by rw [←h.cores];exact (List.getElem?_eq_some_iff.1 hy).1
 have HG:=Lib.hid (h.head_up hy hlu)
 rw [hx,headM_cons,show someB (m::rest)=true from rfl] at HG
 have HR:=Lib.hid (fun w1 (c1:Chg [] w w1)=>zhere_ok k e w1 (h.keep c1) he l hl hX)
 have HK:=Lib.hid (fun w1 (t1:Tab w1)=>hr▸dask_any (hereE e l hl) i m w1 t1)
 have HH:=Lib.hid h
 have HI:=Lib.hid hi
 have HL:=Lib.hid hlu
 have HX:=Lib.hid hx
 have HY:=Lib.hid hy
 have HT:=Lib.hid hT
 have HO:=Lib.hid hto
 have HE:=Lib.hid he
 have HMM:=Lib.hid hM
 have HMN:=Lib.hid hMn
 have HTT:=Lib.hid (fun w1 (c1:Chg (z.all L) w w1)=>(hT.keep h.chg (by simp)).keep c1 (fun hm=>by have h1:=h.new _ hm;have h2:=hT.old.lt;omega))
 have NX:=Lib.hid (show ∀k,w.heap.size≤k→k∉z.all L from fun k hk hm=>by have:=h.old k hm;omega)
 clear h hy hi hx hlu hT he hX hr hto hM hMn
 go_enter Tryz.func19,Tryz.ntmps19
 try dsimp only [List.append]
 go_wp2_with (first |(go_at_call 53;refine (port_ok i _ HH.out HI.out).mono ?_;rintro e w' ⟨rfl,rfl⟩))
 refine HG.out.mono ?_
 rintro r w2 ⟨rfl,c2⟩
 go_wp2_with fail
 have C3:=Lib.hid (c2.alloc (.cells (msc m) 50))
 have r3:(w2.alloc (.cells (msc m) 50)).heap[w2.heap.size]? =some (.cells (msc m) 50 (0,0)):=by simp
 have N3:=Lib.hid (NX.out w2.heap.size c2.size)
 have B3:=Lib.hid c2.size
 generalize w2.heap.size=b3 at r3 N3 B3 ⊢
 generalize w2.alloc (.cells (msc m) 50)=w3 at r3 C3 ⊢
 have o3:=old r3
 clear c2
 go_upto_region 7 with fail
 have HS3:=Lib.hid (show W.heap.size≤w.heap.size from HH.out.chg.size)
 have N8:=Lib.hid (NX.out w3.heap.size C3.out.size)
 go_cut [8,9,10] (fun p s y wx=>∃be',NewZ W w c z {z with be:=be'} L en es xs b3 m e' ds v p s y wx)
 case first=>
  go_region_held3 (fun w'=>w'.heap[b3]? =some (.cells (msc m) 50 (0,0)))
   (first |exact r6|exact ((Chg.refl [] _).alloc _).keep r6 List.not_mem_nil|(rw [heap_putRow _ _ _ _ _ (by rw [r9,rowHas_some,ec_size,ec_size];decide),if_neg n98];exact r6)|exact r5|exact ((Chg.refl [] _).alloc _).keep r5 List.not_mem_nil|exact r3|exact ((Chg.refl [] w3).drew.alloc _).keep r3 List.not_mem_nil)
   (first
    |(go_at_call 56;(try rw [hk]);(first
     |(refine (HR.out _ (C3.out.trans (Chg.refl [] w3).drew)).mono ?_;rintro r w' ⟨rfl,be',M4⟩;have r5:=M4.2.1.keep r3 N3.out;have P5:=(HH.out.stay (C3.out.trans (Chg.refl [] w3).drew)).trans M4;have o5:=old r5)
     |(refine (HR.out _ (C3.out.trans ((Chg.refl [] w3).drew.alloc (.cells (ec enZ) 129)))).mono ?_;rintro r w' ⟨rfl,be',M4⟩;have r5:=M4.2.1.keep (((Chg.refl [] w3).drew.alloc (.cells (ec enZ) 129)).keep r3 List.not_mem_nil) N3.out;have P5:=(HH.out.stay (C3.out.trans ((Chg.refl [] w3).drew.alloc (.cells (ec enZ) 129)))).trans M4;have o5:=old r5;have r8:w'.heap[w3.heap.size]? =some (.cells (ec enZ) 129 (0,0)):=M4.2.1.keep (new_blk w3.drew (.cells (ec enZ) 129)) N8.out;have n8:=size_neE o3)))
    |(go_at_call 55;(first
     |(refine (HK.out _ (HTT.out _ P5.2.1)).mono ?_;rintro r w' ⟨A,na,rfl,hs5,hA5,hc5⟩;have r6:=hc5.keep r5 List.not_mem_nil;have o6:=old r6;(try have r9:=hc5.keep r8 List.not_mem_nil);(try have n98:=n8))
     |(refine (HK.out _ (HTT.out _ (P5.2.1.alloc _))).mono ?_;rintro r w' ⟨A,na,rfl,hs5,hA5,hc5⟩;have r6:=hc5.keep (((Chg.refl [] _).alloc _).keep r5 List.not_mem_nil) List.not_mem_nil;have o6:=old r6;have r9:=hc5.keep (new_blk _ (.cells (ec enZ) 129)) List.not_mem_nil;have n98:=size_neE o5))))
  all_goals
   go_wp2_with fail
   go_meet
   case rel=>
    have n3:b3∉({z with be:=be'}:Lay).all L:=fun hm=>by
     rcases M4.2.2 _ hm with h|h
     ·exact N3.out h
     ·have:=o3.lt;simp at h;omega
    first
     |exact ⟨be',NewZ.putC HS3.out n3 P5 hc5 r5 hs5 hA5⟩
     |exact ⟨be',NewZ.putB HS3.out n3 P5 hc5 r5 hs5 hA5⟩
     |exact ⟨be',NewZ.putA HS3.out n3 P5 hc5 r8 r5 C3.out.size (fun hm=>by rcases M4.2.2 _ hm with h|h;exact N8.out h;simp at h;omega) (by have:=o3.lt;omega) hs5 hA5⟩
 case rest=>
  obtain ⟨be',hz⟩:=hcut
  rename World=>w9
  obtain ⟨b8,A,na,rfl,rfl,rfl,r8,r9,hs,hA,⟨h8,n8⟩,n3,P⟩:=hz
  have PP:=Lib.hid P
  have o8:=old r8
  have o9:=old r9
  by_cases hv:v=0
  ·have HSL:=Lib.hid hs
   have HAL:=Lib.hid hA
   have NB3:=Lib.hid n3
   have NB8:=Lib.hid n8
   clear hs hA n3 n8 P h8
   obtain rfl:=hv
   go_wp2_with fail
   refine (PP.out.1.pop_up HY.out HL.out).mono ?_
   rintro r w10 ⟨rfl,p',_,M10⟩
   replace r8:=M10.2.1.keep r8 NB8.out
   replace r9:=M10.2.1.keep r9 NB3.out
   have HM10:=Lib.hid M10
   clear M10 o8 o9
   have o8:=old r8
   have o9:=old r9
   have hbec:=zbecome_ok k e e' A ds.length na ds w10 HM10.out.1 HT.out HE.out rfl (HSL.out.chg HM10.out.2.1 (fun a ha=>(HAL.out a ha).2)) (by
    intro h0 a ha hm
    rcases HM10.out.2.2 _ hm with h1|h1
    ·exact (HAL.out a ha).2 h1
    ·obtain ⟨b,o,rfl⟩:=HSL.out.addr h0
     obtain ⟨cs,ts,fs,hb2,_,_⟩:=sd_whole HSL.out (Chg.refl [] w9) (by simp) h0 (List.getElem?_eq_getElem h0)
     cases ha
     have:=lt_heap hb2
     simp at h1
     omega) HO.out M (by
    intro y hy
    rw [ports_set] at hy
    rcases List.mem_or_eq_of_mem_set hy with h1|rfl
    ·exact HMM.out y h1
    ·exact HMM.out x (List.mem_of_getElem? (ports_at HY.out))) HMN.out
   have HBE:=Lib.hid hbec
   clear hbec
   go_wp2_with fail
   refine HBE.out.mono ?_
   rintro r w11 ⟨rfl,L',M11,hp⟩
   have HM11:=Lib.hid M11
   have HPP:=Lib.hid hp
   clear M11 hp r8 r9 o8 o9
   go_wp2_with fail
   refine (HM11.out.1.count 10 (by decide) (by decide)).mono ?_
   rintro r w12 ⟨⟨v,rfl⟩,ks',M12⟩
   have HM12:=Lib.hid M12
   clear M12
   go_wp2_with fail
   go_ret
   have hpp:ports L'=sendP ((ports L).set i {x with up:=rest}) ds:=by rw [HPP.out,ports_set,HX.out];rfl
   first
    |exact .inr ⟨rfl,rfl,be',ks',L',((PP.out.trans HM10.out).trans HM11.out).trans HM12.out,hpp⟩
    |exact ⟨rfl,be',ks',L',((PP.out.trans HM10.out).trans HM11.out).trans HM12.out,hpp⟩
  ·have tv:(v !=0)=true:=by simpa using hv
   clear r8 r9 hs hA n3 n8 P h8 o8 o9
   go_wp2_with fail
   go_ret
   first
    |exact .inl ⟨hv,rfl,be',PP.out⟩
    |exact ⟨rfl,be',PP.out⟩
end
end Go.Proofs.YtcjoinhngdfdmaaGreatDoor
end
section
namespace Go.Proofs.YtcjoinhngdfdmaaGreatDoor
open Go.RowKit
set_option linter.unusedVariables false
set_option maxHeartbeats 1000000
set_option maxRecDepth 100000
attribute [local go_sem ↓] append_appS copy_copS clear_clrS make_mkS cell_row frozen_row loadLine storeLine loadSlot storeSlot heap_drew heap_drewN heap_alloc heap_past heap_setCell heap_putRow vs_get slc_st slc_li slc_us slice_slS loadMsg storeMsg loadHas storeHas msc_kd msc_li msc_di msc_ke
attribute [local go_sem] rowCell_some rowFrozen_some rowHas_some rowIn_some rowPart_full rowPart_lit rowPut_full rowPut_lit rowSet_some size_putRow vs_size vs_one wideLine wideSlot run_loadS run_storeS run_appS run_copS run_clrS run_mkS loadW_at storeW_at fit_all fit_le one_int one_bool one_pointer one_slice allOne_list putRow_new ne_size1 ne_size2 ne_size3 ne_size4 zero8_length lines_nil line_eq lit8 slc_size slc_one slc_part slc_in fold_slt fold_slc slc_set_us wideMsg wideHas run_slS msc_size msc_one msc_part msc_in fold_msc msc_putDi msc_putKe msc_putX msc_has ms4_lit
attribute [local simp ↓] heap_drew heap_drewN heap_alloc heap_past heap_setCell heap_putRow
attribute [local simp] rowCell_some rowFrozen_some rowHas_some rowIn_some rowPart_full rowPart_lit rowPut_full rowPut_lit rowSet_some size_putRow vs_size fit_all putRow_new ne_size1 ne_size2 ne_size3 ne_size4 zero8_length slc_size msc_size msc_putDi msc_putKe msc_putX msc_has fit_le
attribute [local go_sem ↓] ec_he ec_di ec_ow ec_sh ec_bu ec_by ec_wa sc_to
attribute [local go_sem] mi_and mi_or mi_not mi_beq0 mi_bne0 ec_size ec_one ec_part ec_in ec_has ec_setDi ec_setOw ec_setSh ec_setBu ec_setBy ec_setWa ec_setSh0 ec_setWa0 ec_putM sc_size sc_one sc_part sc_in
attribute [local simp] ec_size sc_size ec_setDi ec_setOw ec_setSh ec_setBu ec_setBy ec_setWa ec_setSh0 ec_setWa0 ec_putM
attribute [local go_sem ↓] loadEn storeEn loadSd storeSd en_z0
attribute [local go_sem] wideEn wideSd fold_sc size11 putRow_newB putRow_newC ms5_lit
attribute [local simp] en_z0 putRow_newB putRow_newC fit_le ec_has
attribute [local go_sem ↓] mlitZ zenc_po zenc_en zenc_q
attribute [local simp] mlitZ
section
variable {W:World} {c:Cg} {z:Lay} {L:List (Po×Pt)} {en:List En} {es:List Ent} {xs:List Int}
theorem zhear_no (k:Int) (w:World) (h:Msd W w c z L en es xs) (hk:inB k c.co=false):Calls Tryz.prog 20 #[.pointer (some ⟨z.sy,0,none⟩),.int .i64 k] w fun r w'=>r=.returned (.tuple #[.agg (msc msZ),.int .i64 1])∧Chg [] w w':=by
 have HH:=Lib.hid h
 have HK:=Lib.hid hk
 clear h hk
 go_enter Tryz.func20,Tryz.ntmps20
 try dsimp only [List.append]
 go_wp2_with (first |(go_at_call 53;refine (port_no k _ (HH.out.keep ((Chg.refl [] w).alloc _)) HK.out).mono ?_;rintro e w' ⟨rfl,rfl⟩))
 refine bodyPost_ret (v:=.tuple #[.agg (msc msZ),.int .i64 1]) ?_ (by rfl) ?_
 ·exact results_msg2 (by rfl) _ _ w.heap.size msZ (0,0) (by rfl) (by simp [*]) _ (by rfl)
 ·exact ⟨rfl,by (repeat' (first |with_reducible exact Chg.refl _ _|with_reducible assumption|with_reducible refine Chg.drew ?_|with_reducible refine Chg.drewN ?_ _|with_reducible refine Chg.alloc ?_ _|with_reducible refine Chg.putRow ?_ _ _ _ (.inr ?_)|with_reducible refine Chg.setCell ?_ _ _ _ (.inr ?_)|(show _≤_;first |exact Nat.le_refl _|omega|(simp;done))))⟩
theorem zhear_none (i:Nat) (p:Po) (x:Pt) (w:World) (h:Msd W w c z L en es xs) (hy:L[i]? =some (p,x)) (hx:x.dn=[]):Calls Tryz.prog 20 #[.pointer (some ⟨z.sy,0,none⟩),.int .i64 i] w fun r w'=>r=.returned (.tuple #[.agg (msc msZ),.int .i64 14])∧∃p',MTo W w c z L z (L.set i (p',{x with dn:=[]})) en es xs w':=by
 have hi:i<c.co:=by rw [←h.cores];exact (List.getElem?_eq_some_iff.1 hy).1
 have hw:w.heap.size∉z.all L:=fun hm=>by have:=h.old _ hm;omega
 have HG:=Lib.hid (fun w1 (c1:Chg [] w w1)=>(h.keep c1).pop_dn hy (by rw [hx];simp))
 rw [hx,headM_nil,show someB ([]:List Ms)=false from rfl] at HG
 have HH:=Lib.hid h
 have HI:=Lib.hid hi
 have HW:=Lib.hid hw
 clear h hy hi hx hw
 go_enter Tryz.func20,Tryz.ntmps20
 try dsimp only [List.append]
 go_wp2_with (first |(go_at_call 53;refine (port_ok i _ (HH.out.keep ((Chg.refl [] w).alloc _)) HI.out).mono ?_;rintro e w' ⟨rfl,rfl⟩))
 refine (HG.out _ ((Chg.refl [] w).alloc _)).mono ?_
 rintro r w2 ⟨rfl,p',_,M2⟩
 have r0:w2.heap[w.heap.size]? =some (.cells (msc msZ) 50 (0,0)):=M2.2.1.keep (by simp) HW.out
 have o0:=old r0
 have HM2:=Lib.hid ((HH.out.stay ((Chg.refl [] w).alloc (.cells (msc msZ) 50))).trans M2)
 have HSZ:=Lib.hid (show w.heap.size<(w.alloc (.cells (msc msZ) 50)).heap.size by simp)
 have HN:=Lib.hid M2.2.2
 clear M2
 go_wp2_with fail
 refine bodyPost_ret (v:=.tuple #[.agg (msc msZ),.int .i64 14]) ?_ (by rfl) ?_
 ·exact results_msg2 (by rfl) _ _ w.heap.size msZ (0,0) (by rfl) (by simp [*]) _ (by rfl)
 ·refine ⟨rfl,p',(HM2.out.trans (HM2.out.1.stay ((Chg.refl [] w2).alloc _))).loc (((Chg.refl [w.heap.size] _).putRow w.heap.size 0 _ (.inl (by simp)))) ?_⟩
  intro k hk
  rw [List.mem_singleton] at hk
  subst hk
  refine ⟨HH.out.chg.size,Nat.le_refl _,fun hm=>?_⟩
  rcases HN.out _ hm with h1|h1
  ·exact HW.out h1
  ·have:=HSZ.out;omega
theorem Msd.answers {w w2:World} (h:Msd W w c z L en es xs) (hT:Tab W) {i:Nat} {p:Po} {x:Pt} (hy:L[i]? =some (p,x)) {s:Sta} {A:Option Addr} {nc:Nat} {ms:List Ms} (hq:x.an.length<1000) (h1:ms.length≤1) (hm:∀m∈ms,mg m=true) (h2:Told w w2 A ms) (h3:Agt W w2 p.g p.a p.b c.se c.wa s) (h4:Chg [p.a,p.b] w w2):
 Calls Tryz.prog 61 #[.pointer (some ⟨z.po,i*7+3,none⟩),.slice A ms.length nc] w2 fun e w'=>e=.returned (.tuple #[])∧∃p',p'.g=p.g∧MTo W w c z L z (L.set i (p',{x with s:=s,an:=x.an++ms})) en es xs w':=by
 have M2:=h.agent hy h3 h4
 have hold:=h.old
 refine (M2.1.send_an hT (set_at hy) A _ nc ms rfl h2.1 ?_ (by show x.an.length+ms.length≤1000;omega) hm).mono ?_
 ·intro a ha hk
  rw [all_set (y':=(p,{x with s:=s})) hy rfl] at hk
  have:=hold _ hk
  have:=h2.2 a ha
  omega
 ·rintro e w' ⟨he,p',hg,M3⟩
  refine ⟨he,p',hg,M2.trans ?_⟩
  rw [List.set_set] at M3
  exact M3
theorem zhear_go (i:Nat) (p:Po) (x:Pt) (m:Ms) (rest:List Ms) (s':Sta) (av:List Ms) (v:Int) (w:World) (h:Msd W w c z L en es xs) (hT:Tabs W) (hy:L[i]? =some (p,x)) (hx:x.dn=m::rest) (hlu:x.dn.length≤1000) (hu:x.s.2≤1000000000)
 (hr:hearF c.se c.wa x.s m=(s',(av,v))) (ha1:av.length≤1) (hla:x.an.length<1000) (hma:∀a∈av,mg a=true):
 Calls Tryz.prog 20 #[.pointer (some ⟨z.sy,0,none⟩),.int .i64 i] w fun r w'=>(v≠0∧r=.returned (.tuple #[.agg (msc msZ),.int .i64 v])∧∃p',MTo W w c z L z (L.set i (p',{x with s:=s',dn:=rest})) en es xs w')∨
  (v=0∧r=.returned (.tuple #[.agg (msc m),.int .i64 0])∧∃ks' p',MTo W w c z L {z with ks:=ks'} (L.set i (p',{x with s:=s',an:=x.an++av,dn:=rest})) en es xs w'):=by
 have hi:i<c.co:=by rw [←h.cores];exact (List.getElem?_eq_some_iff.1 hy).1
 have hw:w.heap.size∉z.all L:=fun hm=>by have:=h.old _ hm;omega
 have HG:=Lib.hid (fun w1 (c1:Chg [] w w1)=>(h.keep c1).pop_dn hy hlu)
 have hxt:x.dn.tail=rest:=by rw [hx];rfl
 rw [hxt,hx,headM_cons,show someB (m::rest)=true from rfl] at HG
 have hh:∀(w1:World) (p1:Po),Agt W w1 p1.g p1.a p1.b c.se c.wa x.s→Calls Tryz.prog 60 #[.pointer (some ⟨p1.g,0,none⟩),.agg (msc m)] w1 (AgRet W w1 p1.g p1.a p1.b c.se c.wa s' (fun a=>.tuple #[a,.int .i64 v]) av):=by
  intro w1 p1 h1
  have:=ghear_any m w1 h1 hu hT
  rw [hr] at this
  exact this
 have HA:=Lib.hid hh
 have HH:=Lib.hid h
 have HI:=Lib.hid hi
 have HW:=Lib.hid hw
 have HT:=Lib.hid hT
 have HY:=Lib.hid hy
 have H1:=Lib.hid ha1
 have HLA:=Lib.hid hla
 have HMA:=Lib.hid hma
 clear h hy hi hx hw hT hlu hu hr ha1 hla hma hh hxt
 go_enter Tryz.func20,Tryz.ntmps20
 try dsimp only [List.append]
 go_wp2_with (first |(go_at_call 53;refine (port_ok i _ (HH.out.keep ((Chg.refl [] w).alloc _)) HI.out).mono ?_;rintro e w' ⟨rfl,rfl⟩))
 refine (HG.out _ ((Chg.refl [] w).alloc _)).mono ?_
 rintro r w2 ⟨rfl,p',hg0,M2⟩
 clear hg0
 have r0:w2.heap[w.heap.size]? =some (.cells (msc msZ) 50 (0,0)):=M2.2.1.keep (by simp) HW.out
 have HM2:=Lib.hid ((HH.out.stay ((Chg.refl [] w).alloc (.cells (msc msZ) 50))).trans M2)
 have HY2:=Lib.hid (set_at (y':=(p',{x with dn:=rest})) HY.out)
 have NB:=Lib.hid (show w.heap.size∉z.all (L.set i (p',{x with dn:=rest})) from fun hm=>by
  rcases M2.2.2 _ hm with h1|h1
  ·exact HW.out h1
  ·simp at h1;omega)
 clear M2
 generalize hL1:L.set i (p',{x with dn:=rest})=L1 at HM2 HY2 NB
 have HL1:=Lib.hid hL1
 clear hL1
 have o0:=old r0
 go_wp2_with fail
 have C3:=Lib.hid ((Chg.refl [] w2).alloc (.cells (msc m) 50))
 have r3:(w2.alloc (.cells (msc m) 50)).heap[w2.heap.size]? =some (.cells (msc m) 50 (0,0)):=by simp
 have N3:=Lib.hid (show w2.heap.size∉z.all L1 from fun hm=>by have:=HM2.out.1.old _ hm;omega)
 replace r0:=C3.out.keep r0 List.not_mem_nil
 have ne0:w.heap.size≠w2.heap.size:=by have:=o0.lt;omega
 have H03:=Lib.hid (show w.heap.size≤w2.heap.size from Nat.le_of_lt o0.lt)
 generalize w2.heap.size=b3 at r3 N3 ne0 H03 ⊢
 generalize hb0:w.heap.size=b0 at r0 NB ne0 H03 ⊢
 have HB0:=Lib.hid hb0
 clear hb0 o0
 generalize w2.alloc (.cells (msc m) 50)=w3 at r0 r3 C3 ⊢
 have HM3:=Lib.hid (HM2.out.1.keep C3.out)
 have rP:=HM3.out.ports
 have s0:rowCell (w3.heap[z.po]?) (i*7)=some (.pointer (some ⟨p'.g,0,none⟩)):=by rw [rP,rowCell_some];exact pcell0 HY2.out
 have hpa:∀k∈[p'.a,p'.b],k∈z.all L1:=fun k hk=>HM3.out.inf HY2.out (.inr (by
  unfold Po.foot
  simp only [List.mem_cons,List.not_mem_nil,or_false] at hk
  rcases hk with h5|h5<;>simp [h5]))
 have NP:=Lib.hid (show z.po∉[p'.a,p'.b] from fun hp=>by
  have:z.po∈p'.foot z.po:=by
   unfold Po.foot
   simp only [List.mem_cons,List.not_mem_nil,or_false] at hp
   rcases hp with h5|h5<;>simp [←h5]
  exact (HM3.out.own HY2.out _ this).1 (Lay.beB (by simp)))
 have N3P:=Lib.hid (show b3∉[p'.a,p'.b] from fun hm=>N3.out (hpa _ hm))
 have N0P:=Lib.hid (show b0∉[p'.a,p'.b] from fun hm=>NB.out (hpa _ hm))
 have o3:=old r3
 have HR:=Lib.hid rP
 have HC0:=Lib.hid (show (sq penc L1 [])[i*7]? =some (.pointer (some ⟨p'.g,0,none⟩)) from pcell0 HY2.out)
 have HAG:=Lib.hid (show Agt W w3.drew p'.g p'.a p'.b c.se c.wa x.s from ((HM3.out.keep (Chg.refl [] w3).drew).ok _ (List.mem_of_getElem? HY2.out)).1)
 have HAH:=Lib.hid (HA.out _ p' HAG.out)
 have HR3:=Lib.hid r3
 have HR0:=Lib.hid r0
 clear rP hpa HA HAG HG
 go_upto_region 7 with fail
 go_region_held3 (fun w'=>rowCell (w'.heap[z.po]?) (i*7)=some (.pointer (some ⟨p'.g,0,none⟩))∧w'.heap[b3]? =some (.cells (msc m) 50 (0,0)))
  (first |(refine ⟨?_,h4.keep r3 N3P.out⟩;rw [h4.keep HR.out NP.out,rowCell_some];exact HC0.out)|exact ⟨s0,r3⟩)
  (first
   |(go_at_call 60;refine HAH.out.mono ?_;rintro e w' ⟨A,n,rfl,h2,h3,h4⟩))
 all_goals
  rename World=>w4
  rename _∧_=>hHeld
  have HS2:=Lib.hid h2
  have HS3:=Lib.hid h3
  have HS4:=Lib.hid h4
  replace r3:=h4.keep r3 N3P.out
  replace r0:=h4.keep r0 N0P.out
  clear h2 h3 h4 s0 o3
  have o3:=old r3
  have o0:=old r0
  have HMA3:=Lib.hid ((HM3.out.keep (Chg.refl [] w3).drew).agent HY2.out HS3.out HS4.out)
  have HLOC:=Lib.hid (show W.heap.size≤b0∧w.heap.size≤b0 from ⟨by rw [←HB0.out];exact HH.out.chg.size,by rw [←HB0.out];exact Nat.le_refl _⟩)
  by_cases hv:v=0
  ·have HSE:=Lib.hid ((HM3.out.keep (Chg.refl [] w3).drew).answers (nc:=n) HT.out.1 HY2.out HLA.out H1.out HMA.out HS2.out HS3.out HS4.out)
   clear hHeld
   obtain rfl:=hv
   go_wp2_with fail
   refine HSE.out.mono ?_
   rintro r w5 ⟨rfl,p2,hg2,M5⟩
   clear hg2
   have HM5:=Lib.hid ((((HM2.out.trans (HM2.out.1.stay C3.out))).trans (HM3.out.stay (Chg.refl [] w3).drew)).trans M5)
   clear r3 r0 o3 o0
   have r3:=M5.2.1.keep HR3.out N3.out
   have r0:=M5.2.1.keep HR0.out NB.out
   have l3:=lt_heap HR3.out
   have l0:=lt_heap HR0.out
   have HN3:=Lib.hid (fun hm=>by rcases M5.2.2 b3 hm with h1|h1;exact N3.out h1;simp at h1;omega:b3∉z.all _)
   have HN0:=Lib.hid (fun hm=>by rcases M5.2.2 b0 hm with h1|h1;exact NB.out h1;simp at h1;omega:b0∉z.all _)
   have hs5:L1.set i (p2,{x with s:=s',an:=x.an++av,dn:=rest})=L.set i (p2,{x with s:=s',an:=x.an++av,dn:=rest}):=by rw [←HL1.out,List.set_set]
   have hm5:=HM5.out
   have hn3:=HN3.out
   have hn0:=HN0.out
   try dsimp only at hm5 hn3 hn0
   rw [hs5] at hm5 hn3 hn0
   have HM6:=Lib.hid hm5
   have HN6:=Lib.hid hn3
   have HN7:=Lib.hid hn0
   clear M5 l3 l0 hs5 hm5 hn3 hn0
   have o3:=old r3
   have o0:=old r0
   go_wp2_with fail
   refine (HM6.out.1.count 12 (by decide) (by decide)).mono ?_
   rintro r w6 ⟨⟨v,rfl⟩,ks',M6⟩
   replace r3:=M6.2.1.keep r3 HN6.out
   replace r0:=M6.2.1.keep r0 HN7.out
   have HM7:=Lib.hid (HM6.out.trans M6)
   clear M6 o3 o0
   have o3:=old r3
   have o0:=old r0
   go_wp2_with fail
   refine bodyPost_ret (v:=.tuple #[.agg (msc m),.int .i64 0]) ?_ (by rfl) ?_
   ·exact results_msg2 (by rfl) _ _ b0 m (0,0) (by rfl) (by simp [*]) _ (by rfl)
   ·have hfin:∃ks' p',MTo W w c z L {z with ks:=ks'} (L.set i (p',{x with s:=s',an:=x.an++av,dn:=rest})) en es xs (putRow w6 b0 0 (msc m)):=by
     refine ⟨ks',p2,HM7.out.loc ((Chg.refl [b0] w6).putRow b0 0 (msc m) (.inl (by simp))) ?_⟩
     intro k hk
     rw [List.mem_singleton] at hk
     subst hk
     exact ⟨HLOC.out.1,HLOC.out.2,HN7.out⟩
    first
     |exact .inr ⟨rfl,rfl,hfin⟩
     |exact ⟨rfl,hfin⟩
  ·have tv:(v !=0)=true:=by simpa using hv
   clear hHeld
   go_wp2_with fail
   refine bodyPost_ret (v:=.tuple #[.agg (msc msZ),.int .i64 v]) ?_ (by rfl) ?_
   ·exact results_msg2 (by rfl) _ _ b0 msZ (0,0) (by rfl) (by simp [*]) _ (by rfl)
   ·have hfin:∃p',MTo W w c z L z (L.set i (p',{x with s:=s',dn:=rest})) en es xs (putRow w4 b0 0 (msc msZ)):=by
     have hm:=(((HM2.out.trans (HM2.out.1.stay C3.out))).trans (HM3.out.stay (Chg.refl [] w3).drew)).trans HMA3.out
     have hn:b0∉z.all (L1.set i (p',{x with s:=s',dn:=rest})):=by rw [all_set (y':=(p',{x with s:=s',dn:=rest})) HY2.out rfl];exact NB.out
     have e5:L1.set i (p',{x with s:=s',dn:=rest})=L.set i (p',{x with s:=s',dn:=rest}):=by rw [←HL1.out,List.set_set]
     try dsimp only at hm
     rw [e5] at hm hn
     refine ⟨p',hm.loc ((Chg.refl [b0] w4).putRow b0 0 (msc msZ) (.inl (by simp))) ?_⟩
     intro k hk
     rw [List.mem_singleton] at hk
     subst hk
     exact ⟨HLOC.out.1,HLOC.out.2,hn⟩
    first
     |exact .inl ⟨hv,rfl,hfin⟩
     |exact ⟨rfl,hfin⟩
end
end Go.Proofs.YtcjoinhngdfdmaaGreatDoor
end
section
namespace Go.Proofs.YtcjoinhngdfdmaaGreatDoor
open Go.RowKit
set_option linter.unusedVariables false
set_option maxHeartbeats 1000000
theorem pl_next (f n:Nat):pl (pl f 1) n=pl f (n+1):=by unfold pl;omega
section
variable (room:Int) (r:Ring) (f c:Nat)
theorem bfc_sn (n:Nat):(bfc room r f c)[1+pl f n*5+4]? =some (.bool (r.get (pl f n)).sn):=bfc_cell room r f c (by omega)
end
def hdE (es:List Se):Se:=es.headD seZ
def hdB (es:List Se):Bool:=!es.isEmpty
def sdE:List Se→List Se
 |[]=>[]
 |e::es=>if e.kd=14 then sent e::es else e::es
end Go.Proofs.YtcjoinhngdfdmaaGreatDoor
end
