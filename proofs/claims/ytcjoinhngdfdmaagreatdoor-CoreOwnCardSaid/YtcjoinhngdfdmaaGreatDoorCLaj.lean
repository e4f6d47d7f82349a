/- Texts of the walk, one behind the other: Mfc Mfd Mfe Mff Mfg Prd. No condition. -/
import Derived.Test.YtcjoinhngdfdmaaGreatDoorCLac
import Derived.Test.YtcjoinhngdfdmaaGreatDoorCLai
import Derived.BigQuiet
import Derived.Deep.Cut
import Derived.Deep.CutBlock
import Derived.Deep.CutRange
import Derived.Deep.DeepCutAuto
import Derived.Deep.QuietTactic
import Derived.Deep.RegionHeld3
import Derived.Deep.RegionWith
namespace Go.Proofs.YtcjoinhngdfdmaaGreatDoor
open Go.RowKit
set_option linter.unusedVariables false
set_option maxHeartbeats 1000000
set_option maxRecDepth 100000
attribute [local go_sem ↓] append_appS copy_copS clear_clrS make_mkS cell_row frozen_row loadLine storeLine loadSlot storeSlot heap_drew heap_drewN heap_alloc heap_past heap_setCell heap_putRow slc_st slc_li slc_us slice_slS loadMsg storeMsg loadHas storeHas msc_kd msc_li msc_di msc_ke
attribute [local go_sem] rowCell_some rowFrozen_some rowHas_some rowIn_some rowPart_full rowPut_full rowSet_some vs_size vs_one wideLine wideSlot run_loadS run_storeS run_appS run_copS run_clrS run_mkS loadW_at storeW_at fit_all fit_le one_int one_bool one_pointer one_slice allOne_list putRow_new ne_size1 ne_size2 zero8_length lines_nil line_eq lit8 slc_size slc_one slc_part fold_slt fold_slc slc_set_us wideMsg wideHas run_slS msc_size msc_one msc_part fold_msc msc_putDi msc_putKe msc_putX ms4_lit
attribute [local simp ↓] heap_drew heap_drewN heap_alloc heap_past heap_setCell heap_putRow
attribute [local simp] rowCell_some rowFrozen_some rowHas_some rowIn_some rowPart_full rowPut_full rowSet_some vs_size fit_all putRow_new ne_size1 ne_size2 zero8_length slc_size msc_size msc_putDi msc_putKe msc_putX fit_le
attribute [local go_sem ↓] ec_he ec_di ec_ow ec_sh ec_bu ec_by ec_wa sc_to
attribute [local go_sem] mi_and mi_or mi_not mi_beq0 mi_bne0 ec_size ec_one ec_part ec_in ec_has ec_setDi ec_setOw ec_setSh ec_setBu ec_setBy ec_setWa ec_setSh0 ec_setWa0 ec_putM sc_size sc_one sc_part
attribute [local simp] ec_size sc_size ec_setDi ec_setOw ec_setSh ec_setBu ec_setBy ec_setWa ec_setSh0 ec_setWa0 ec_putM
attribute [local go_sem ↓] loadEn storeEn loadSd storeSd en_z0
attribute [local go_sem] wideEn wideSd fold_sc size11 putRow_newB putRow_newC ms5_lit
attribute [local simp] en_z0 putRow_newB putRow_newC fit_le ec_has
attribute [local go_sem ↓] mlitZ zenc_po zenc_en zenc_q
attribute [local simp] mlitZ
section
theorem zenc_k {z:Lay} {c:Cg} {o:Nat} {k:Int} (h0:10≤o) (h:z.ks[o-10]? =some k):(z.enc c).toArray[o]? =some (.int .u64 k):=by
 unfold Lay.enc
 rw [List.getElem?_toArray,List.getElem?_append_right (by simp [Cg.enc];omega),show (c.enc++[Value.pointer (some ⟨z.q,0,none⟩),Value.slice (some ⟨z.po,0,none⟩) c.co c.co,Value.slice (some ⟨z.en,0,none⟩) c.li c.li]).length=10 by simp [Cg.enc],List.getElem?_map,h]
 rfl
theorem zenc_put {z:Lay} {c:Cg} {o:Nat} {k:Int} (h0:10≤o):(z.enc c).toArray.setIfInBounds o (.int .u64 k)=(({z with ks:=z.ks.set (o-10) k}:Lay).enc c).toArray:=by
 unfold Lay.enc
 rw [List.setIfInBounds_toArray,List.set_append_right _ _ (by simp [Cg.enc];omega),show (c.enc++[Value.pointer (some ⟨z.q,0,none⟩),Value.slice (some ⟨z.po,0,none⟩) c.co c.co,Value.slice (some ⟨z.en,0,none⟩) c.li c.li]).length=10 by simp [Cg.enc],List.map_set]
section
variable {W:World} {c:Cg} {z:Lay} {L:List (Po×Pt)} {en:List En} {es:List Ent} {xs:List Int}
theorem Msd.count {w:World} (h:Msd W w c z L en es xs) (o:Nat) (h0:10≤o) (h1:o<16):Calls Tryz.prog 59 #[.pointer (some ⟨z.sy,o,none⟩),.int .u64 1] w fun e w'=>(∃v,e=.returned v)∧∃ks',MTo W w c z L {z with ks:=ks'} L en es xs w':=by
 have hk:o-10<z.ks.length:=by rw [h.six];omega
 refine (add_any z.sy o z.ks[o-10] w _ _ h.sys (zenc_k h0 (List.getElem?_eq_getElem hk))).mono ?_
 rintro e w' ⟨rfl,rfl⟩
 have nes:z.en≠z.sy:=Ne.symm h.ne6.1.2.2.2.2
 refine ⟨⟨_,rfl⟩,z.ks.set (o-10) (IntKind.u64.wrap (z.ks[o-10]+1)),h.other (k:=z.sy) (.inl rfl) ((Chg.refl [z.sy] w).setCell z.sy o _ (.inl (by simp))) ?_ (by rw [List.length_set];exact h.six) ?_ h.lines⟩
 ·rw [heap_setCell,if_pos rfl,h.sys,rowSet_some,zenc_put h0]
 ·rw [heap_setCell,if_neg nes];exact h.ents
theorem zdrain_off (k:Int) (w:World) (h:Msd W w c z L en es xs) (hk:inB k c.li=false):Calls Tryz.prog 66 #[.pointer (some ⟨z.sy,0,none⟩),.int .i64 k] w fun r w'=>r=.returned (.int .i64 1)∧w=w':=by
 have HH:=Lib.hid h
 have HK:=Lib.hid hk
 clear h hk
 go_enter Tryz.func66,Tryz.ntmps66
 try dsimp only [List.append]
 go_wp2_with (first |(go_at_call 63;refine (isline_at k false HK.out _ HH.out).mono ?_;rintro e w' ⟨rfl,rfl⟩))
 go_ret
 exact ⟨rfl,rfl⟩
theorem drain_val (es:List Ent) (k:Int):drainVal es k=0∨drainVal es k=14:=by unfold drainVal;split<;>simp
theorem zdrain_ok (k:Int) (w:World) (h:Msd W w c z L en es xs) (hk:inB k c.li=true):Calls Tryz.prog 66 #[.pointer (some ⟨z.sy,0,none⟩),.int .i64 k] w fun r w'=>r=.returned (.int .i64 (drainVal es k))∧∃be' ks',MTo W w c z L {z with be:=be',ks:=ks'} L en (drainEs es k) (drainXs xs es k) w':=by
 have rS:=h.sys
 have HH:=Lib.hid h
 have HK:=Lib.hid hk
 have HD:=Lib.hid (any_drain h.mem k)
 have hv:=drain_val es k
 generalize drainVal es k=v at HD hv ⊢
 clear h hk
 rcases hv with rfl|rfl
 ·skip
  go_enter Tryz.func66,Tryz.ntmps66
  try dsimp only [List.append]
  go_wp2_with (first |(go_at_call 63;refine (isline_at k true HK.out _ HH.out).mono ?_;rintro e w' ⟨rfl,rfl⟩))
  refine HD.out.mono ?_
  rintro r w2 ⟨rfl,be',hs,hc,hb⟩
  have M2:=Lib.hid (HH.out.memory hs hc hb)
  replace rS:=M2.out.1.sys
  clear hs hc hb
  go_wp2_with fail
  refine (M2.out.1.count 15 (by decide) (by decide)).mono ?_
  rintro r w3 ⟨⟨v,rfl⟩,ks',M3⟩
  have HN:=Lib.hid (M2.out.trans M3)
  clear M3
  go_wp2_with fail
  go_ret
  exact ⟨rfl,be',ks',HN.out⟩
 ·skip
  go_enter Tryz.func66,Tryz.ntmps66
  try dsimp only [List.append]
  go_wp2_with (first |(go_at_call 63;refine (isline_at k true HK.out _ HH.out).mono ?_;rintro e w' ⟨rfl,rfl⟩))
  refine HD.out.mono ?_
  rintro r w2 ⟨rfl,be',hs,hc,hb⟩
  have M2:=Lib.hid (HH.out.memory hs hc hb)
  clear hs hc hb rS
  go_wp2_with fail
  go_ret
  exact ⟨rfl,be',z.ks,M2.out⟩
end
end
section
section
variable {W:World} {c:Cg} {z:Lay} {L:List (Po×Pt)} {en:List En} {es:List Ent} {xs:List Int}
theorem zup_none (i:Nat) (p:Po) (x:Pt) (w:World) (h:Msd W w c z L en es xs) (hy:L[i]? =some (p,x)) (hx:x.up=[]):Calls Tryz.prog 19 #[.pointer (some ⟨z.sy,0,none⟩),.int .i64 i] w fun r w'=>r=.returned (.int .i64 14)∧Chg [] w w':=by
 have hi:i<c.co:=by rw [←h.cores];exact (List.getElem?_eq_some_iff.1 hy).1
 have HG:=Lib.hid (h.head_up hy (by rw [hx];simp))
 rw [hx,headM_nil,show someB ([]:List Ms)=false from rfl] at HG
 have HH:=Lib.hid h
 have HI:=Lib.hid hi
 clear h hy hi hx
 go_enter Tryz.func19,Tryz.ntmps19
 try dsimp only [List.append]
 go_wp2_with (first |(go_at_call 53;refine (port_ok i _ HH.out HI.out).mono ?_;rintro e w' ⟨rfl,rfl⟩))
 refine HG.out.mono ?_
 rintro r w2 ⟨rfl,c2⟩
 have HC:=Lib.hid c2
 clear c2
 go_wp2_with fail
 go_ret
 exact ⟨rfl,HC.out.alloc _⟩
theorem new_blk (w:World) (o:Obj):(w.alloc o).heap[w.heap.size]? =some o:=by simp
theorem size_neE {w:World} {b:Nat} (h:Old w b):¬b=w.heap.size:=by have:=h.lt;omega
def NewZ (W w:World) (c:Cg) (z z':Lay) (L:List (Po×Pt)) (en:List En) (es:List Ent) (xs:List Int) (b3:Nat) (m:Ms) (e':En) (ds:List Sd) (v:Int) (p s y:Value) (wx:World):Prop:=
 ∃b8 A na,p=.pointer (some ⟨b8,0,none⟩)∧s=.slice A ds.length na∧y=.int .i64 v∧wx.heap[b8]? =some (.cells (ec e') 129 (0,0))∧wx.heap[b3]? =some (.cells (msc m) 50 (0,0))∧Sl wx 13 A ds.length (cat Sd.enc ds)∧
  (∀a,A=some a→w.heap.size≤a.block∧a.block∉z'.all L)∧(w.heap.size≤b8∧b8∉z'.all L)∧b3∉z'.all L∧MTo W w c z L z' L en es xs wx
section
variable {w w5 w6:World} {z':Lay} {b3:Nat} {m:Ms} {e':En} {ds:List Sd} {v:Int} {A:Option Addr} {na:Nat}
theorem NewZ.put {b8:Nat} (hWw:W.heap.size≤w.heap.size) (n3:b3∉z'.all L) (P:MTo W w c z L z' L en es xs w6) (r8:w6.heap[b8]? =some (.cells (ec enZ) 129 (0,0))) (r3:w6.heap[b3]? =some (.cells (msc m) 50 (0,0))) (h8:w.heap.size≤b8) (n8:b8∉z'.all L) (h38:b8≠b3)
 (hs:Sl w6 13 A ds.length (cat Sd.enc ds)) (hA:∀a,A=some a→w.heap.size≤a.block∧a.block∉z'.all L∧a.block≠b8):NewZ W w c z z' L en es xs b3 m e' ds v (.pointer (some ⟨b8,0,none⟩)) (.slice A ds.length na) (.int .i64 v) (putRow w6 b8 0 (ec e')):=by
 have hh:rowHas (w6.heap[b8]?) 0 (ec e').size=true:=by rw [r8,rowHas_some,ec_size,ec_size];decide
 have cp:Chg [b8] w6 (putRow w6 b8 0 (ec e')):=(Chg.refl [b8] w6).putRow b8 0 _ (.inl (by simp))
 refine ⟨b8,A,na,rfl,rfl,rfl,?_,cp.keep r3 (by simpa using Ne.symm h38),hs.chg cp (fun a ha=>by simpa using (hA a ha).2.2),fun a ha=>⟨(hA a ha).1,(hA a ha).2.1⟩,⟨h8,n8⟩,n3,P.loc cp ?_⟩
 ·rw [heap_putRow _ _ _ _ _ hh,if_pos rfl,r8,rowPut_full _ _ _ _ (by rw [ec_size,ec_size])]
 ·intro k hk
  rw [List.mem_singleton] at hk
  subst hk
  exact ⟨Nat.le_trans hWw h8,h8,n8⟩
theorem NewZ.putA {b8:Nat} (hWw:W.heap.size≤w.heap.size) (n3:b3∉z'.all L) (P:MTo W w c z L z' L en es xs w5) (hc:Chg [] w5 w6) (r8:w5.heap[b8]? =some (.cells (ec enZ) 129 (0,0))) (r3:w5.heap[b3]? =some (.cells (msc m) 50 (0,0))) (h8:w.heap.size≤b8) (n8:b8∉z'.all L) (h38:b8≠b3)
 (hs:Sl w6 13 A ds.length (cat Sd.enc ds)) (hA:∀a,A=some a→w5.heap.size≤a.block):NewZ W w c z z' L en es xs b3 m e' ds v (.pointer (some ⟨b8,0,none⟩)) (.slice A ds.length na) (.int .i64 v) (putRow w6 b8 0 (ec e')):=by
 refine NewZ.put hWw n3 (P.trans (P.1.stay hc)) (hc.keep r8 (by simp)) (hc.keep r3 (by simp)) h8 n8 h38 hs fun a ha=>?_
 have h1:=hA a ha
 have h2:=lt_heap r8
 exact ⟨Nat.le_trans P.2.1.size h1,fun hm=>by have:=P.1.old _ hm;omega,by omega⟩
theorem NewZ.putB {o:Obj} (hWw:W.heap.size≤w.heap.size) (n3:b3∉z'.all L) (P:MTo W w c z L z' L en es xs w5) (hc:Chg [] (w5.alloc (.cells (ec enZ) 129)) w6) (r3:w5.heap[b3]? =some (.cells (msc m) 50 (0,0)))
 (hs:Sl w6 13 A ds.length (cat Sd.enc ds)) (hA:∀a,A=some a→(w5.alloc o).heap.size≤a.block):NewZ W w c z z' L en es xs b3 m e' ds v (.pointer (some ⟨w5.heap.size,0,none⟩)) (.slice A ds.length na) (.int .i64 v) (putRow w6 w5.heap.size 0 (ec e')):=by
 have P2:=P.trans (P.1.stay ((Chg.refl [] w5).alloc (.cells (ec enZ) 129)))
 have n8:w5.heap.size∉z'.all L:=fun hm=>by have:=P.1.old _ hm;omega
 refine NewZ.putA hWw n3 P2 hc (by simp) (((Chg.refl [] w5).alloc _).keep r3 (by simp)) P.2.1.size n8 (by have:=lt_heap r3;omega) hs fun a ha=>?_
 have h1:=hA a ha
 simpa using h1
theorem NewZ.putC (hWw:W.heap.size≤w.heap.size) (n3:b3∉z'.all L) (P:MTo W w c z L z' L en es xs w5) (hc:Chg [] w5 w6) (r3:w5.heap[b3]? =some (.cells (msc m) 50 (0,0)))
 (hs:Sl w6 13 A ds.length (cat Sd.enc ds)) (hA:∀a,A=some a→w5.heap.size≤a.block):NewZ W w c z z' L en es xs b3 m e' ds v (.pointer (some ⟨w6.heap.size,0,none⟩)) (.slice A ds.length na) (.int .i64 v) (w6.alloc (.cells (ec e') 129)):=by
 have P6:=P.trans (P.1.stay hc)
 have ca:=(Chg.refl [] w6).alloc (.cells (ec e') 129)
 refine ⟨w6.heap.size,A,na,rfl,rfl,rfl,by simp,ca.keep (hc.keep r3 (by simp)) (by simp),hs.chg ca (by simp),fun a ha=>?_,⟨P6.2.1.size,fun hm=>by have:=P6.1.old _ hm;omega⟩,n3,P6.trans (P6.1.stay ca)⟩
 have h1:=hA a ha
 exact ⟨Nat.le_trans P.2.1.size h1,fun hm=>by have:=P.1.old _ hm;omega⟩
end
theorem zup_go (i k:Nat) (p:Po) (x:Pt) (m:Ms) (rest:List Ms) (e e':En) (l:List Int) (hl:l.length=8) (ds:List Sd) (v:Int) (w:World) (h:Msd W w c z L en es xs) (hT:Tab W) (hy:L[i]? =some (p,x)) (hx:x.up=m::rest) (hlu:x.up.length≤1000) (hk:m.li=(k:Int)) (he:en[k]? =some e) (hX:ln (over xs es) k=l)
 (hr:askE (hereE e l hl) i m=((e',ds),v)) (hto:∀d∈ds,0≤d.to∧d.to<c.co∧mg d.m=true) (M:Nat) (hM:∀x∈ports L,x.dn.length≤M) (hMn:M+ds.length≤1000):
 Calls Tryz.prog 19 #[.pointer (some ⟨z.sy,0,none⟩),.int .i64 i] w fun r w'=>(v≠0∧r=.returned (.int .i64 v)∧∃be',MTo W w c z L {z with be:=be'} L en es xs w')∨
  (v=0∧r=.returned (.int .i64 0)∧∃be' ks' L',MTo W w c z L {z with be:=be',ks:=ks'} L' (en.set k e') es xs w'∧ports L'=sendP ((ports L).set i {x with up:=rest}) ds):=by
 have hi:i<c.co:=by rw [←h.cores];exact (List.getElem?_eq_some_iff.1 hy).1
 have HG:=Lib.hid (h.head_up hy hlu)
 rw [hx,headM_cons,show someB (m::rest)=true from rfl] at HG
 have HR:=Lib.hid (fun w1 (c1:Chg [] w w1)=>zhere_ok k e w1 (h.keep c1) he l hl hX)
 have HK:=Lib.hid (fun w1 (t1:Tab w1)=>hr▸dask_any (hereE e l hl) i m w1 t1)
 have HH:=Lib.hid h
 have HI:=Lib.hid hi
 have HL:=Lib.hid hlu
 have HX:=Lib.hid hx
 have HY:=Lib.hid hy
 have HT:=Lib.hid hT
 have HO:=Lib.hid hto
 have HE:=Lib.hid he
 have HMM:=Lib.hid hM
 have HMN:=Lib.hid hMn
 have HTT:=Lib.hid (fun w1 (c1:Chg (z.all L) w w1)=>(hT.keep h.chg (by simp)).keep c1 (fun hm=>by have h1:=h.new _ hm;have h2:=hT.old.lt;omega))
 have NX:=Lib.hid (show ∀k,w.heap.size≤k→k∉z.all L from fun k hk hm=>by have:=h.old k hm;omega)
 clear h hy hi hx hlu hT he hX hr hto hM hMn
 go_enter Tryz.func19,Tryz.ntmps19
 try dsimp only [List.append]
 go_wp2_with (first |(go_at_call 53;refine (port_ok i _ HH.out HI.out).mono ?_;rintro e w' ⟨rfl,rfl⟩))
 refine HG.out.mono ?_
 rintro r w2 ⟨rfl,c2⟩
 go_wp2_with fail
 have C3:=Lib.hid (c2.alloc (.cells (msc m) 50))
 have r3:(w2.alloc (.cells (msc m) 50)).heap[w2.heap.size]? =some (.cells (msc m) 50 (0,0)):=by simp
 have N3:=Lib.hid (NX.out w2.heap.size c2.size)
 have B3:=Lib.hid c2.size
 generalize w2.heap.size=b3 at r3 N3 B3 ⊢
 generalize w2.alloc (.cells (msc m) 50)=w3 at r3 C3 ⊢
 have o3:=old r3
 clear c2
 go_upto_region 7 with fail
 have HS3:=Lib.hid (show W.heap.size≤w.heap.size from HH.out.chg.size)
 have N8:=Lib.hid (NX.out w3.heap.size C3.out.size)
 go_cut [8,9,10] (fun p s y wx=>∃be',NewZ W w c z {z with be:=be'} L en es xs b3 m e' ds v p s y wx)
 case first=>
  go_region_held3 (fun w'=>w'.heap[b3]? =some (.cells (msc m) 50 (0,0)))
   (first |exact r6|exact ((Chg.refl [] _).alloc _).keep r6 List.not_mem_nil|(rw [heap_putRow _ _ _ _ _ (by rw [r9,rowHas_some,ec_size,ec_size];decide),if_neg n98];exact r6)|exact r5|exact ((Chg.refl [] _).alloc _).keep r5 List.not_mem_nil|exact r3|exact ((Chg.refl [] w3).drew.alloc _).keep r3 List.not_mem_nil)
   (first
    |(go_at_call 56;(try rw [hk]);(first
     |(refine (HR.out _ (C3.out.trans (Chg.refl [] w3).drew)).mono ?_;rintro r w' ⟨rfl,be',M4⟩;have r5:=M4.2.1.keep r3 N3.out;have P5:=(HH.out.stay (C3.out.trans (Chg.refl [] w3).drew)).trans M4;have o5:=old r5)
     |(refine (HR.out _ (C3.out.trans ((Chg.refl [] w3).drew.alloc (.cells (ec enZ) 129)))).mono ?_;rintro r w' ⟨rfl,be',M4⟩;have r5:=M4.2.1.keep (((Chg.refl [] w3).drew.alloc (.cells (ec enZ) 129)).keep r3 List.not_mem_nil) N3.out;have P5:=(HH.out.stay (C3.out.trans ((Chg.refl [] w3).drew.alloc (.cells (ec enZ) 129)))).trans M4;have o5:=old r5;have r8:w'.heap[w3.heap.size]? =some (.cells (ec enZ) 129 (0,0)):=M4.2.1.keep (new_blk w3.drew (.cells (ec enZ) 129)) N8.out;have n8:=size_neE o3)))
    |(go_at_call 55;(first
     |(refine (HK.out _ (HTT.out _ P5.2.1)).mono ?_;rintro r w' ⟨A,na,rfl,hs5,hA5,hc5⟩;have r6:=hc5.keep r5 List.not_mem_nil;have o6:=old r6;(try have r9:=hc5.keep r8 List.not_mem_nil);(try have n98:=n8))
     |(refine (HK.out _ (HTT.out _ (P5.2.1.alloc _))).mono ?_;rintro r w' ⟨A,na,rfl,hs5,hA5,hc5⟩;have r6:=hc5.keep (((Chg.refl [] _).alloc _).keep r5 List.not_mem_nil) List.not_mem_nil;have o6:=old r6;have r9:=hc5.keep (new_blk _ (.cells (ec enZ) 129)) List.not_mem_nil;have n98:=size_neE o5))))
  all_goals
   go_wp2_with fail
   go_meet
   case rel=>
    have n3:b3∉({z with be:=be'}:Lay).all L:=fun hm=>by
     rcases M4.2.2 _ hm with h|h
     ·exact N3.out h
     ·have:=o3.lt;simp at h;omega
    first
     |exact ⟨be',NewZ.putC HS3.out n3 P5 hc5 r5 hs5 hA5⟩
     |exact ⟨be',NewZ.putB HS3.out n3 P5 hc5 r5 hs5 hA5⟩
     |exact ⟨be',NewZ.putA HS3.out n3 P5 hc5 r8 r5 C3.out.size (fun hm=>by rcases M4.2.2 _ hm with h|h;exact N8.out h;simp at h;omega) (by have:=o3.lt;omega) hs5 hA5⟩
 case rest=>
  obtain ⟨be',hz⟩:=hcut
  rename World=>w9
  obtain ⟨b8,A,na,rfl,rfl,rfl,r8,r9,hs,hA,⟨h8,n8⟩,n3,P⟩:=hz
  have PP:=Lib.hid P
  have o8:=old r8
  have o9:=old r9
  by_cases hv:v=0
  ·have HSL:=Lib.hid hs
   have HAL:=Lib.hid hA
   have NB3:=Lib.hid n3
   have NB8:=Lib.hid n8
   clear hs hA n3 n8 P h8
   obtain rfl:=hv
   go_wp2_with fail
   refine (PP.out.1.pop_up HY.out HL.out).mono ?_
   rintro r w10 ⟨rfl,p',_,M10⟩
   replace r8:=M10.2.1.keep r8 NB8.out
   replace r9:=M10.2.1.keep r9 NB3.out
   have HM10:=Lib.hid M10
   clear M10 o8 o9
   have o8:=old r8
   have o9:=old r9
   have hbec:=zbecome_ok k e e' A ds.length na ds w10 HM10.out.1 HT.out HE.out rfl (HSL.out.chg HM10.out.2.1 (fun a ha=>(HAL.out a ha).2)) (by
    intro h0 a ha hm
    rcases HM10.out.2.2 _ hm with h1|h1
    ·exact (HAL.out a ha).2 h1
    ·obtain ⟨b,o,rfl⟩:=HSL.out.addr h0
     obtain ⟨cs,ts,fs,hb2,_,_⟩:=sd_whole HSL.out (Chg.refl [] w9) (by simp) h0 (List.getElem?_eq_getElem h0)
     cases ha
     have:=lt_heap hb2
     simp at h1
     omega) HO.out M (by
    intro y hy
    rw [ports_set] at hy
    rcases List.mem_or_eq_of_mem_set hy with h1|rfl
    ·exact HMM.out y h1
    ·exact HMM.out x (List.mem_of_getElem? (ports_at HY.out))) HMN.out
   have HBE:=Lib.hid hbec
   clear hbec
   go_wp2_with fail
   refine HBE.out.mono ?_
   rintro r w11 ⟨rfl,L',M11,hp⟩
   have HM11:=Lib.hid M11
   have HPP:=Lib.hid hp
   clear M11 hp r8 r9 o8 o9
   go_wp2_with fail
   refine (HM11.out.1.count 10 (by decide) (by decide)).mono ?_
   rintro r w12 ⟨⟨v,rfl⟩,ks',M12⟩
   have HM12:=Lib.hid M12
   clear M12
   go_wp2_with fail
   go_ret
   have hpp:ports L'=sendP ((ports L).set i {x with up:=rest}) ds:=by rw [HPP.out,ports_set,HX.out];rfl
   first
    |exact .inr ⟨rfl,rfl,be',ks',L',((PP.out.trans HM10.out).trans HM11.out).trans HM12.out,hpp⟩
    |exact ⟨rfl,be',ks',L',((PP.out.trans HM10.out).trans HM11.out).trans HM12.out,hpp⟩
  ·have tv:(v !=0)=true:=by simpa using hv
   clear r8 r9 hs hA n3 n8 P h8 o8 o9
   go_wp2_with fail
   go_ret
   first
    |exact .inl ⟨hv,rfl,be',PP.out⟩
    |exact ⟨rfl,be',PP.out⟩
end
end
section
section
variable {W:World} {c:Cg} {z:Lay} {L:List (Po×Pt)} {en:List En} {es:List Ent} {xs:List Int}
theorem zanswer_none (i:Nat) (p:Po) (x:Pt) (w:World) (h:Msd W w c z L en es xs) (hy:L[i]? =some (p,x)) (hx:x.an=[]):Calls Tryz.prog 23 #[.pointer (some ⟨z.sy,0,none⟩),.int .i64 i] w fun r w'=>r=.returned (.int .i64 14)∧∃p',MTo W w c z L z (L.set i (p',{x with an:=[]})) en es xs w':=by
 have hi:i<c.co:=by rw [←h.cores];exact (List.getElem?_eq_some_iff.1 hy).1
 have HG:=Lib.hid (h.pop_an hy (by rw [hx];simp))
 rw [hx,headM_nil,show someB ([]:List Ms)=false from rfl] at HG
 have HH:=Lib.hid h
 have HI:=Lib.hid hi
 clear h hy hi hx
 go_enter Tryz.func23,Tryz.ntmps23
 try dsimp only [List.append]
 go_wp2_with (first |(go_at_call 53;refine (port_ok i _ HH.out HI.out).mono ?_;rintro e w' ⟨rfl,rfl⟩))
 refine HG.out.mono ?_
 rintro r w2 ⟨rfl,p',_,M2⟩
 have HM2:=Lib.hid M2
 clear M2
 go_wp2_with fail
 go_ret
 exact ⟨rfl,p',HM2.out.trans (HM2.out.1.stay ((Chg.refl [] w2).alloc _))⟩
theorem zanswer_go (i k:Nat) (p:Po) (x:Pt) (m:Ms) (rest:List Ms) (e e':En) (ds:List Sd) (v:Int) (w:World) (h:Msd W w c z L en es xs) (hT:Tab W) (hy:L[i]? =some (p,x)) (hx:x.an=m::rest) (hlu:x.an.length≤1000) (hk:m.li=(k:Int)) (he:en[k]? =some e)
 (hr:ansE e i m=((e',ds),v)) (hto:∀d∈ds,0≤d.to∧d.to<c.co∧mg d.m=true) (M:Nat) (hM:∀x∈ports L,x.dn.length≤M) (hMn:M+ds.length≤1000):
 Calls Tryz.prog 23 #[.pointer (some ⟨z.sy,0,none⟩),.int .i64 i] w fun r w'=>(v≠0∧r=.returned (.int .i64 v)∧∃p',MTo W w c z L z (L.set i (p',{x with an:=rest})) en es xs w')∨
  (v=0∧r=.returned (.int .i64 0)∧∃ks' L',MTo W w c z L {z with ks:=ks'} L' (en.set k e') es xs w'∧ports L'=sendP ((ports L).set i {x with an:=rest}) ds):=by
 have hi:i<c.co:=by rw [←h.cores];exact (List.getElem?_eq_some_iff.1 hy).1
 have hli:k<c.li:=by rw [←h.lines];exact (List.getElem?_eq_some_iff.1 he).1
 have HG:=Lib.hid (h.pop_an hy hlu)
 have hxt:x.an.tail=rest:=by rw [hx];rfl
 have hpx:(ports L)[i]? =some x:=ports_at hy
 rw [hxt,hx,headM_cons,show someB (m::rest)=true from rfl] at HG
 have HK:=Lib.hid (fun w1 (t1:Tab w1)=>hr▸danswer_any e i m w1 t1)
 have HH:=Lib.hid h
 have HI:=Lib.hid hi
 have HT:=Lib.hid hT
 have HO:=Lib.hid hto
 have HE:=Lib.hid he
 have HMM:=Lib.hid hM
 have HMN:=Lib.hid hMn
 have HPX:=Lib.hid hpx
 have HTT:=Lib.hid (fun w1 (c1:Chg (z.all L) w w1)=>(hT.keep h.chg (by simp)).keep c1 (fun hm=>by have h1:=h.new _ hm;have h2:=hT.old.lt;omega))
 have p0:=fun t f=>erow he t f
 have p1:=fun t f=>erowIn he t f
 have g0:(0:Int)≤(k:Int):=by omega
 have g1:(k:Int)<(c.li:Int):=by omega
 clear h hy hi hx hlu hT he hr hto hM hMn hxt hpx hli
 go_enter Tryz.func23,Tryz.ntmps23
 try dsimp only [List.append]
 go_wp2_with (first |(go_at_call 53;refine (port_ok i _ HH.out HI.out).mono ?_;rintro e w' ⟨rfl,rfl⟩))
 refine HG.out.mono ?_
 rintro r w2 ⟨rfl,p',_,M2⟩
 have HM2:=Lib.hid M2
 have rS:=M2.1.sys
 have rE:=M2.1.ents
 clear M2
 generalize hL1:L.set i (p',{x with an:=rest})=L1 at HM2
 have HL1:=Lib.hid hL1
 clear hL1
 have HW2:=Lib.hid (show ∀k,w2.heap.size≤k→k∉z.all L1 from fun k hk hm=>by have:=HM2.out.1.old k hm;omega)
 go_wp2_with fail
 have C3:=Lib.hid ((Chg.refl [] w2).alloc (.cells (msc m) 50))
 have r3:(w2.alloc (.cells (msc m) 50)).heap[w2.heap.size]? =some (.cells (msc m) 50 (0,0)):=by simp
 have N3:=Lib.hid (HW2.out w2.heap.size (Nat.le_refl _))
 replace rS:=C3.out.keep rS List.not_mem_nil
 replace rE:=C3.out.keep rE List.not_mem_nil
 have hsy:z.sy<w2.heap.size:=lt_heap HM2.out.1.sys
 have hse:z.en<w2.heap.size:=lt_heap HM2.out.1.ents
 generalize w2.heap.size=b3 at r3 N3 hsy hse ⊢
 have ne1:z.sy≠b3:=by omega
 have ne2:z.en≠b3:=by omega
 clear hsy hse
 generalize w2.alloc (.cells (msc m) 50)=w3 at r3 C3 rS rE ⊢
 have o3:=old r3
 have oS:=old rS
 have oE:=old rE
 go_upto_region 7 with fail
 have HS3:=Lib.hid (show W.heap.size≤w2.heap.size from HM2.out.1.chg.size)
 have N8:=Lib.hid (HW2.out w3.heap.size C3.out.size)
 go_cut [8,9,10] (fun p s y wx=>NewZ W w2 c z z L1 en es xs b3 m e' ds v p s y wx)
 case first=>
  go_region_held3 (fun w'=>w'.heap[b3]? =some (.cells (msc m) 50 (0,0))∧w'.heap[z.sy]? =some (.cells (z.enc c).toArray 91 (0,0))∧w'.heap[z.en]? =some (.cells (sq En.enc en []) 129 (0,0)))
   (first |exact ⟨r6,s6,e6⟩|exact ⟨((Chg.refl [] _).alloc _).keep r6 List.not_mem_nil,((Chg.refl [] _).alloc _).keep s6 List.not_mem_nil,((Chg.refl [] _).alloc _).keep e6 List.not_mem_nil⟩|(refine ⟨?_,?_,?_⟩;(rw [heap_putRow _ _ _ _ _ (by rw [r9,rowHas_some,ec_size,ec_size];decide),if_neg n98];exact r6);(rw [heap_putRow _ _ _ _ _ (by rw [r9,rowHas_some,ec_size,ec_size];decide),if_neg (size_neE oS)];exact s6);(rw [heap_putRow _ _ _ _ _ (by rw [r9,rowHas_some,ec_size,ec_size];decide),if_neg (size_neE oE)];exact e6))|exact ⟨r3,rS,rE⟩|exact ⟨((Chg.refl [] w3).drew.alloc _).keep r3 List.not_mem_nil,((Chg.refl [] w3).drew.alloc _).keep rS List.not_mem_nil,((Chg.refl [] w3).drew.alloc _).keep rE List.not_mem_nil⟩)
   (first
    |(go_at_call 62;(first
     |(refine (HK.out _ (HTT.out _ (HM2.out.2.1.trans (C3.out.trans (Chg.refl [] w3).drew |>.mono (by simp))))).mono ?_;rintro r w' ⟨A,na,rfl,hs5,hA5,hc5⟩;have r6:=hc5.keep r3 List.not_mem_nil;have s6:=hc5.keep rS List.not_mem_nil;have e6:=hc5.keep rE List.not_mem_nil;have o6:=old r6)
     |(refine (HK.out _ (HTT.out _ (HM2.out.2.1.trans (C3.out.trans ((Chg.refl [] w3).drew.alloc (.cells (ec enZ) 129)) |>.mono (by simp))))).mono ?_;rintro r w' ⟨A,na,rfl,hs5,hA5,hc5⟩;have r6:=hc5.keep (((Chg.refl [] w3).drew.alloc (.cells (ec enZ) 129)).keep r3 List.not_mem_nil) List.not_mem_nil;have s6:=hc5.keep (((Chg.refl [] w3).drew.alloc (.cells (ec enZ) 129)).keep rS List.not_mem_nil) List.not_mem_nil;have e6:=hc5.keep (((Chg.refl [] w3).drew.alloc (.cells (ec enZ) 129)).keep rE List.not_mem_nil) List.not_mem_nil;have o6:=old r6;have r9:w'.heap[w3.heap.size]? =some (.cells (ec enZ) 129 (0,0)):=hc5.keep (new_blk w3.drew (.cells (ec enZ) 129)) List.not_mem_nil;have n98:=size_neE o3))))
  all_goals
   go_wp2_with fail
   go_meet
   case rel=>
    first
     |exact NewZ.putC HS3.out N3.out (HM2.out.1.stay (C3.out.trans (Chg.refl [] w3).drew)) hc5 r3 hs5 hA5
     |exact NewZ.putA HS3.out N3.out (HM2.out.1.stay (C3.out.trans ((Chg.refl [] w3).drew.alloc (.cells (ec enZ) 129)))) hc5 (new_blk w3.drew (.cells (ec enZ) 129)) (((Chg.refl [] w3).drew.alloc (.cells (ec enZ) 129)).keep r3 List.not_mem_nil) C3.out.size N8.out (by have:=o3.lt;omega) hs5 hA5
 case rest=>
  have hz:=hcut
  clear hcut rS rE oS oE
  rename World=>w9
  obtain ⟨b8,A,na,rfl,rfl,rfl,r8,r9,hs,hA,⟨h8,n8⟩,n3,P⟩:=hz
  have PP:=Lib.hid P
  have o8:=old r8
  have o9:=old r9
  by_cases hv:v=0
  ·have HSL:=Lib.hid hs
   have HAL:=Lib.hid hA
   have hbec:=zbecome_ok k e e' A ds.length na ds w9 PP.out.1 HT.out HE.out rfl HSL.out (fun h0 a ha=>(HAL.out a ha).2) HO.out M (by
    intro y hy
    rw [←HL1.out,ports_set] at hy
    rcases List.mem_or_eq_of_mem_set hy with h1|rfl
    ·exact HMM.out y h1
    ·exact HMM.out x (List.mem_of_getElem? HPX.out)) HMN.out
   have HBE:=Lib.hid hbec
   clear hs hA n3 n8 P h8 hbec
   obtain rfl:=hv
   go_wp2_with fail
   refine HBE.out.mono ?_
   rintro r w11 ⟨rfl,L',M11,hp⟩
   have HM11:=Lib.hid M11
   have HPP:=Lib.hid hp
   clear M11 hp r8 r9 o8 o9
   go_wp2_with fail
   refine (HM11.out.1.count 11 (by decide) (by decide)).mono ?_
   rintro r w12 ⟨⟨v,rfl⟩,ks',M12⟩
   have HM12:=Lib.hid M12
   clear M12
   go_wp2_with fail
   go_ret
   have hpp:ports L'=sendP ((ports L).set i {x with an:=rest}) ds:=by rw [HPP.out,←HL1.out,ports_set]
   first
    |exact .inr ⟨rfl,rfl,ks',L',((HM2.out.trans PP.out).trans HM11.out).trans HM12.out,hpp⟩
    |exact ⟨rfl,ks',L',((HM2.out.trans PP.out).trans HM11.out).trans HM12.out,hpp⟩
  ·have tv:(v !=0)=true:=by simpa using hv
   clear r8 r9 hs hA n3 n8 P h8 o8 o9
   go_wp2_with fail
   go_ret
   have hfin:∃p',MTo W w c z L z (L.set i (p',{x with an:=rest})) en es xs w9:=⟨p',by rw [HL1.out];exact HM2.out.trans PP.out⟩
   first
    |exact .inl ⟨hv,rfl,hfin⟩
    |exact ⟨rfl,hfin⟩
end
end
section
section
variable {W:World} {c:Cg} {z:Lay} {L:List (Po×Pt)} {en:List En} {es:List Ent} {xs:List Int}
theorem zhear_no (k:Int) (w:World) (h:Msd W w c z L en es xs) (hk:inB k c.co=false):Calls Tryz.prog 20 #[.pointer (some ⟨z.sy,0,none⟩),.int .i64 k] w fun r w'=>r=.returned (.tuple #[.agg (msc msZ),.int .i64 1])∧Chg [] w w':=by
 have HH:=Lib.hid h
 have HK:=Lib.hid hk
 clear h hk
 go_enter Tryz.func20,Tryz.ntmps20
 try dsimp only [List.append]
 go_wp2_with (first |(go_at_call 53;refine (port_no k _ (HH.out.keep ((Chg.refl [] w).alloc _)) HK.out).mono ?_;rintro e w' ⟨rfl,rfl⟩))
 refine bodyPost_ret (v:=.tuple #[.agg (msc msZ),.int .i64 1]) ?_ (by rfl) ?_
 ·exact results_msg2 (by rfl) _ _ w.heap.size msZ (0,0) (by rfl) (by simp [*]) _ (by rfl)
 ·exact ⟨rfl,by (repeat' (first |with_reducible exact Chg.refl _ _|with_reducible assumption|with_reducible refine Chg.drew ?_|with_reducible refine Chg.drewN ?_ _|with_reducible refine Chg.alloc ?_ _|with_reducible refine Chg.putRow ?_ _ _ _ (.inr ?_)|with_reducible refine Chg.setCell ?_ _ _ _ (.inr ?_)|(show _≤_;first |exact Nat.le_refl _|omega|(simp;done))))⟩
theorem zhear_none (i:Nat) (p:Po) (x:Pt) (w:World) (h:Msd W w c z L en es xs) (hy:L[i]? =some (p,x)) (hx:x.dn=[]):Calls Tryz.prog 20 #[.pointer (some ⟨z.sy,0,none⟩),.int .i64 i] w fun r w'=>r=.returned (.tuple #[.agg (msc msZ),.int .i64 14])∧∃p',MTo W w c z L z (L.set i (p',{x with dn:=[]})) en es xs w':=by
 have hi:i<c.co:=by rw [←h.cores];exact (List.getElem?_eq_some_iff.1 hy).1
 have hw:w.heap.size∉z.all L:=fun hm=>by have:=h.old _ hm;omega
 have HG:=Lib.hid (fun w1 (c1:Chg [] w w1)=>(h.keep c1).pop_dn hy (by rw [hx];simp))
 rw [hx,headM_nil,show someB ([]:List Ms)=false from rfl] at HG
 have HH:=Lib.hid h
 have HI:=Lib.hid hi
 have HW:=Lib.hid hw
 clear h hy hi hx hw
 go_enter Tryz.func20,Tryz.ntmps20
 try dsimp only [List.append]
 go_wp2_with (first |(go_at_call 53;refine (port_ok i _ (HH.out.keep ((Chg.refl [] w).alloc _)) HI.out).mono ?_;rintro e w' ⟨rfl,rfl⟩))
 refine (HG.out _ ((Chg.refl [] w).alloc _)).mono ?_
 rintro r w2 ⟨rfl,p',_,M2⟩
 have r0:w2.heap[w.heap.size]? =some (.cells (msc msZ) 50 (0,0)):=M2.2.1.keep (by simp) HW.out
 have o0:=old r0
 have HM2:=Lib.hid ((HH.out.stay ((Chg.refl [] w).alloc (.cells (msc msZ) 50))).trans M2)
 have HSZ:=Lib.hid (show w.heap.size<(w.alloc (.cells (msc msZ) 50)).heap.size by simp)
 have HN:=Lib.hid M2.2.2
 clear M2
 go_wp2_with fail
 refine bodyPost_ret (v:=.tuple #[.agg (msc msZ),.int .i64 14]) ?_ (by rfl) ?_
 ·exact results_msg2 (by rfl) _ _ w.heap.size msZ (0,0) (by rfl) (by simp [*]) _ (by rfl)
 ·refine ⟨rfl,p',(HM2.out.trans (HM2.out.1.stay ((Chg.refl [] w2).alloc _))).loc (((Chg.refl [w.heap.size] _).putRow w.heap.size 0 _ (.inl (by simp)))) ?_⟩
  intro k hk
  rw [List.mem_singleton] at hk
  subst hk
  refine ⟨HH.out.chg.size,Nat.le_refl _,fun hm=>?_⟩
  rcases HN.out _ hm with h1|h1
  ·exact HW.out h1
  ·have:=HSZ.out;omega
theorem Msd.answers {w w2:World} (h:Msd W w c z L en es xs) (hT:Tab W) {i:Nat} {p:Po} {x:Pt} (hy:L[i]? =some (p,x)) {s:Sta} {A:Option Addr} {nc:Nat} {ms:List Ms} (hq:x.an.length<1000) (h1:ms.length≤1) (hm:∀m∈ms,mg m=true) (h2:Told w w2 A ms) (h3:Agt W w2 p.g p.a p.b c.se c.wa s) (h4:Chg [p.a,p.b] w w2):
 Calls Tryz.prog 61 #[.pointer (some ⟨z.po,i*7+3,none⟩),.slice A ms.length nc] w2 fun e w'=>e=.returned (.tuple #[])∧∃p',p'.g=p.g∧MTo W w c z L z (L.set i (p',{x with s:=s,an:=x.an++ms})) en es xs w':=by
 have M2:=h.agent hy h3 h4
 have hold:=h.old
 refine (M2.1.send_an hT (set_at hy) A _ nc ms rfl h2.1 ?_ (by show x.an.length+ms.length≤1000;omega) hm).mono ?_
 ·intro a ha hk
  rw [all_set (y':=(p,{x with s:=s})) hy rfl] at hk
  have:=hold _ hk
  have:=h2.2 a ha
  omega
 ·rintro e w' ⟨he,p',hg,M3⟩
  refine ⟨he,p',hg,M2.trans ?_⟩
  rw [List.set_set] at M3
  exact M3
theorem zhear_go (i:Nat) (p:Po) (x:Pt) (m:Ms) (rest:List Ms) (s':Sta) (av:List Ms) (v:Int) (w:World) (h:Msd W w c z L en es xs) (hT:Tabs W) (hy:L[i]? =some (p,x)) (hx:x.dn=m::rest) (hlu:x.dn.length≤1000) (hu:x.s.2≤1000000000)
 (hr:hearF c.se c.wa x.s m=(s',(av,v))) (ha1:av.length≤1) (hla:x.an.length<1000) (hma:∀a∈av,mg a=true):
 Calls Tryz.prog 20 #[.pointer (some ⟨z.sy,0,none⟩),.int .i64 i] w fun r w'=>(v≠0∧r=.returned (.tuple #[.agg (msc msZ),.int .i64 v])∧∃p',MTo W w c z L z (L.set i (p',{x with s:=s',dn:=rest})) en es xs w')∨
  (v=0∧r=.returned (.tuple #[.agg (msc m),.int .i64 0])∧∃ks' p',MTo W w c z L {z with ks:=ks'} (L.set i (p',{x with s:=s',an:=x.an++av,dn:=rest})) en es xs w'):=by
 have hi:i<c.co:=by rw [←h.cores];exact (List.getElem?_eq_some_iff.1 hy).1
 have hw:w.heap.size∉z.all L:=fun hm=>by have:=h.old _ hm;omega
 have HG:=Lib.hid (fun w1 (c1:Chg [] w w1)=>(h.keep c1).pop_dn hy hlu)
 have hxt:x.dn.tail=rest:=by rw [hx];rfl
 rw [hxt,hx,headM_cons,show someB (m::rest)=true from rfl] at HG
 have hh:∀(w1:World) (p1:Po),Agt W w1 p1.g p1.a p1.b c.se c.wa x.s→Calls Tryz.prog 60 #[.pointer (some ⟨p1.g,0,none⟩),.agg (msc m)] w1 (AgRet W w1 p1.g p1.a p1.b c.se c.wa s' (fun a=>.tuple #[a,.int .i64 v]) av):=by
  intro w1 p1 h1
  have:=ghear_any m w1 h1 hu hT
  rw [hr] at this
  exact this
 have HA:=Lib.hid hh
 have HH:=Lib.hid h
 have HI:=Lib.hid hi
 have HW:=Lib.hid hw
 have HT:=Lib.hid hT
 have HY:=Lib.hid hy
 have H1:=Lib.hid ha1
 have HLA:=Lib.hid hla
 have HMA:=Lib.hid hma
 clear h hy hi hx hw hT hlu hu hr ha1 hla hma hh hxt
 go_enter Tryz.func20,Tryz.ntmps20
 try dsimp only [List.append]
 go_wp2_with (first |(go_at_call 53;refine (port_ok i _ (HH.out.keep ((Chg.refl [] w).alloc _)) HI.out).mono ?_;rintro e w' ⟨rfl,rfl⟩))
 refine (HG.out _ ((Chg.refl [] w).alloc _)).mono ?_
 rintro r w2 ⟨rfl,p',hg0,M2⟩
 clear hg0
 have r0:w2.heap[w.heap.size]? =some (.cells (msc msZ) 50 (0,0)):=M2.2.1.keep (by simp) HW.out
 have HM2:=Lib.hid ((HH.out.stay ((Chg.refl [] w).alloc (.cells (msc msZ) 50))).trans M2)
 have HY2:=Lib.hid (set_at (y':=(p',{x with dn:=rest})) HY.out)
 have NB:=Lib.hid (show w.heap.size∉z.all (L.set i (p',{x with dn:=rest})) from fun hm=>by
  rcases M2.2.2 _ hm with h1|h1
  ·exact HW.out h1
  ·simp at h1;omega)
 clear M2
 generalize hL1:L.set i (p',{x with dn:=rest})=L1 at HM2 HY2 NB
 have HL1:=Lib.hid hL1
 clear hL1
 have o0:=old r0
 go_wp2_with fail
 have C3:=Lib.hid ((Chg.refl [] w2).alloc (.cells (msc m) 50))
 have r3:(w2.alloc (.cells (msc m) 50)).heap[w2.heap.size]? =some (.cells (msc m) 50 (0,0)):=by simp
 have N3:=Lib.hid (show w2.heap.size∉z.all L1 from fun hm=>by have:=HM2.out.1.old _ hm;omega)
 replace r0:=C3.out.keep r0 List.not_mem_nil
 have ne0:w.heap.size≠w2.heap.size:=by have:=o0.lt;omega
 have H03:=Lib.hid (show w.heap.size≤w2.heap.size from Nat.le_of_lt o0.lt)
 generalize w2.heap.size=b3 at r3 N3 ne0 H03 ⊢
 generalize hb0:w.heap.size=b0 at r0 NB ne0 H03 ⊢
 have HB0:=Lib.hid hb0
 clear hb0 o0
 generalize w2.alloc (.cells (msc m) 50)=w3 at r0 r3 C3 ⊢
 have HM3:=Lib.hid (HM2.out.1.keep C3.out)
 have rP:=HM3.out.ports
 have s0:rowCell (w3.heap[z.po]?) (i*7)=some (.pointer (some ⟨p'.g,0,none⟩)):=by rw [rP,rowCell_some];exact pcell0 HY2.out
 have hpa:∀k∈[p'.a,p'.b],k∈z.all L1:=fun k hk=>HM3.out.inf HY2.out (.inr (by
  unfold Po.foot
  simp only [List.mem_cons,List.not_mem_nil,or_false] at hk
  rcases hk with h5|h5<;>simp [h5]))
 have NP:=Lib.hid (show z.po∉[p'.a,p'.b] from fun hp=>by
  have:z.po∈p'.foot z.po:=by
   unfold Po.foot
   simp only [List.mem_cons,List.not_mem_nil,or_false] at hp
   rcases hp with h5|h5<;>simp [←h5]
  exact (HM3.out.own HY2.out _ this).1 (Lay.beB (by simp)))
 have N3P:=Lib.hid (show b3∉[p'.a,p'.b] from fun hm=>N3.out (hpa _ hm))
 have N0P:=Lib.hid (show b0∉[p'.a,p'.b] from fun hm=>NB.out (hpa _ hm))
 have o3:=old r3
 have HR:=Lib.hid rP
 have HC0:=Lib.hid (show (sq penc L1 [])[i*7]? =some (.pointer (some ⟨p'.g,0,none⟩)) from pcell0 HY2.out)
 have HAG:=Lib.hid (show Agt W w3.drew p'.g p'.a p'.b c.se c.wa x.s from ((HM3.out.keep (Chg.refl [] w3).drew).ok _ (List.mem_of_getElem? HY2.out)).1)
 have HAH:=Lib.hid (HA.out _ p' HAG.out)
 have HR3:=Lib.hid r3
 have HR0:=Lib.hid r0
 clear rP hpa HA HAG HG
 go_upto_region 7 with fail
 go_region_held3 (fun w'=>rowCell (w'.heap[z.po]?) (i*7)=some (.pointer (some ⟨p'.g,0,none⟩))∧w'.heap[b3]? =some (.cells (msc m) 50 (0,0)))
  (first |(refine ⟨?_,h4.keep r3 N3P.out⟩;rw [h4.keep HR.out NP.out,rowCell_some];exact HC0.out)|exact ⟨s0,r3⟩)
  (first
   |(go_at_call 60;refine HAH.out.mono ?_;rintro e w' ⟨A,n,rfl,h2,h3,h4⟩))
 all_goals
  rename World=>w4
  rename _∧_=>hHeld
  have HS2:=Lib.hid h2
  have HS3:=Lib.hid h3
  have HS4:=Lib.hid h4
  replace r3:=h4.keep r3 N3P.out
  replace r0:=h4.keep r0 N0P.out
  clear h2 h3 h4 s0 o3
  have o3:=old r3
  have o0:=old r0
  have HMA3:=Lib.hid ((HM3.out.keep (Chg.refl [] w3).drew).agent HY2.out HS3.out HS4.out)
  have HLOC:=Lib.hid (show W.heap.size≤b0∧w.heap.size≤b0 from ⟨by rw [←HB0.out];exact HH.out.chg.size,by rw [←HB0.out];exact Nat.le_refl _⟩)
  by_cases hv:v=0
  ·have HSE:=Lib.hid ((HM3.out.keep (Chg.refl [] w3).drew).answers (nc:=n) HT.out.1 HY2.out HLA.out H1.out HMA.out HS2.out HS3.out HS4.out)
   clear hHeld
   obtain rfl:=hv
   go_wp2_with fail
   refine HSE.out.mono ?_
   rintro r w5 ⟨rfl,p2,hg2,M5⟩
   clear hg2
   have HM5:=Lib.hid ((((HM2.out.trans (HM2.out.1.stay C3.out))).trans (HM3.out.stay (Chg.refl [] w3).drew)).trans M5)
   clear r3 r0 o3 o0
   have r3:=M5.2.1.keep HR3.out N3.out
   have r0:=M5.2.1.keep HR0.out NB.out
   have l3:=lt_heap HR3.out
   have l0:=lt_heap HR0.out
   have HN3:=Lib.hid (fun hm=>by rcases M5.2.2 b3 hm with h1|h1;exact N3.out h1;simp at h1;omega:b3∉z.all _)
   have HN0:=Lib.hid (fun hm=>by rcases M5.2.2 b0 hm with h1|h1;exact NB.out h1;simp at h1;omega:b0∉z.all _)
   have hs5:L1.set i (p2,{x with s:=s',an:=x.an++av,dn:=rest})=L.set i (p2,{x with s:=s',an:=x.an++av,dn:=rest}):=by rw [←HL1.out,List.set_set]
   have hm5:=HM5.out
   have hn3:=HN3.out
   have hn0:=HN0.out
   try dsimp only at hm5 hn3 hn0
   rw [hs5] at hm5 hn3 hn0
   have HM6:=Lib.hid hm5
   have HN6:=Lib.hid hn3
   have HN7:=Lib.hid hn0
   clear M5 l3 l0 hs5 hm5 hn3 hn0
   have o3:=old r3
   have o0:=old r0
   go_wp2_with fail
   refine (HM6.out.1.count 12 (by decide) (by decide)).mono ?_
   rintro r w6 ⟨⟨v,rfl⟩,ks',M6⟩
   replace r3:=M6.2.1.keep r3 HN6.out
   replace r0:=M6.2.1.keep r0 HN7.out
   have HM7:=Lib.hid (HM6.out.trans M6)
   clear M6 o3 o0
   have o3:=old r3
   have o0:=old r0
   go_wp2_with fail
   refine bodyPost_ret (v:=.tuple #[.agg (msc m),.int .i64 0]) ?_ (by rfl) ?_
   ·exact results_msg2 (by rfl) _ _ b0 m (0,0) (by rfl) (by simp [*]) _ (by rfl)
   ·have hfin:∃ks' p',MTo W w c z L {z with ks:=ks'} (L.set i (p',{x with s:=s',an:=x.an++av,dn:=rest})) en es xs (putRow w6 b0 0 (msc m)):=by
     refine ⟨ks',p2,HM7.out.loc ((Chg.refl [b0] w6).putRow b0 0 (msc m) (.inl (by simp))) ?_⟩
     intro k hk
     rw [List.mem_singleton] at hk
     subst hk
     exact ⟨HLOC.out.1,HLOC.out.2,HN7.out⟩
    first
     |exact .inr ⟨rfl,rfl,hfin⟩
     |exact ⟨rfl,hfin⟩
  ·have tv:(v !=0)=true:=by simpa using hv
   clear hHeld
   go_wp2_with fail
   refine bodyPost_ret (v:=.tuple #[.agg (msc msZ),.int .i64 v]) ?_ (by rfl) ?_
   ·exact results_msg2 (by rfl) _ _ b0 msZ (0,0) (by rfl) (by simp [*]) _ (by rfl)
   ·have hfin:∃p',MTo W w c z L z (L.set i (p',{x with s:=s',dn:=rest})) en es xs (putRow w4 b0 0 (msc msZ)):=by
     have hm:=(((HM2.out.trans (HM2.out.1.stay C3.out))).trans (HM3.out.stay (Chg.refl [] w3).drew)).trans HMA3.out
     have hn:b0∉z.all (L1.set i (p',{x with s:=s',dn:=rest})):=by rw [all_set (y':=(p',{x with s:=s',dn:=rest})) HY2.out rfl];exact NB.out
     have e5:L1.set i (p',{x with s:=s',dn:=rest})=L.set i (p',{x with s:=s',dn:=rest}):=by rw [←HL1.out,List.set_set]
     try dsimp only at hm
     rw [e5] at hm hn
     refine ⟨p',hm.loc ((Chg.refl [b0] w4).putRow b0 0 (msc msZ) (.inl (by simp))) ?_⟩
     intro k hk
     rw [List.mem_singleton] at hk
     subst hk
     exact ⟨HLOC.out.1,HLOC.out.2,hn⟩
    first
     |exact .inl ⟨hv,rfl,hfin⟩
     |exact ⟨rfl,hfin⟩
end
end
section
section
variable {W:World} {c:Cg} {z:Lay} {L:List (Po×Pt)} {en:List En} {es:List Ent} {xs:List Int}
def saveV (c:Cg) (es:List Ent) (i:Nat) (e:En):Int:=if e.di=true then wpushVal c.li c.qu es i else 0
def saveEs (c:Cg) (es:List Ent) (i:Nat) (e:En):List Ent:=if e.di=true then pushEs c.li c.qu es i e.l e.h else es
theorem zsave_ok (i:Nat) (e:En) (w:World) (h:Msd W w c z L en es xs) (he:en[i]? =some e):Calls Tryz.prog 65 #[.pointer (some ⟨z.sy,0,none⟩),.int .i64 i] w fun r w'=>r=.returned (.int .i64 (saveV c es i e))∧∃be',MTo W w c z L {z with be:=be'} L en (saveEs c es i e) xs w':=by
 cases hd:e.di
 ·rw [show saveV c es i e=0 by unfold saveV;rw [if_neg (by simp [hd])],show saveEs c es i e=es by unfold saveEs;rw [if_neg (by simp [hd])]]
  exact (zsave_clean i e w h he hd).mono fun r w' hr=>⟨hr.1,z.be,h.stay hr.2⟩
 ·rw [show saveV c es i e=wpushVal c.li c.qu es i by unfold saveV;rw [if_pos hd],show saveEs c es i e=pushEs c.li c.qu es i e.l e.h by unfold saveEs;rw [if_pos hd]]
  exact zsave_dirty i e w h he hd
end
end
end Go.Proofs.YtcjoinhngdfdmaaGreatDoor
namespace Go.Proofs.YtcjoinhngdfdmaaGreatDoor
open Go.RowKit
set_option linter.unusedVariables false
set_option maxHeartbeats 1000000
section
structure Mst where
 ps:List Pt
 en:List En
 es:List Ent
 xs:List Int
def Mst.X (S:Mst):List Int:=over S.xs S.es
def upL (x:Pt) (i:Nat):List Ms:=x.up.filter (fun m=>m.li==(i:Int)&&decide (m.kd≤3))
def anL (x:Pt) (i:Nat):List Ms:=x.an.filter (fun m=>m.li==(i:Int))
def dnL (x:Pt) (i:Nat):List Ms:=x.dn.filter (fun m=>m.li==(i:Int)&&m.kd !=14)
def vst (x:Pt) (i:Nat):Nat:=(vw x.s i).1.toNat
def vln (x:Pt) (i:Nat):List Int:=(vw x.s i).2
def ptN:Pt:=⟨([],0),[],[],[]⟩
def atP (ps:List Pt) (j:Nat):Pt:=ps.getD j ptN
theorem atP_of {ps:List Pt} {k:Nat} {x:Pt} (h:ps[k]? =some x):atP ps k=x:=by simp [atP,List.getD,h]
theorem atP_mem {ps:List Pt} {k:Nat} (h:k<ps.length):ps[k]? =some (atP ps k):=by
 rw [atP,List.getD_eq_getElem?_getD,List.getElem?_eq_getElem h];rfl
theorem atP_set {ps:List Pt} {k:Nat} (h:k<ps.length) (x:Pt) (j:Nat):atP (ps.set k x) j=if j=k then x else atP ps j:=by
 unfold atP
 rw [List.getD_eq_getElem?_getD,List.getD_eq_getElem?_getD,List.getElem?_set]
 by_cases hj:k=j
 ·subst hj;simp [h]
 ·rw [if_neg hj,if_neg (fun e=>hj e.symm)]
def LinI (co:Nat) (ps:List Pt) (cur X:List Int) (i:Nat) (e:En):Prop:=
 LI co cur X e (fun j=>vst (atP ps j) i) (fun j=>vln (atP ps j) i) (fun j=>upL (atP ps j) i) (fun j=>anL (atP ps j) i) (fun j=>dnL (atP ps j) i)
theorem LI.with {co:Nat} {cur X:List Int} {e:En} {st st':Nat→Nat} {l l':Nat→List Int} {U N D U' N' D':Nat→List Ms} (h:LI co cur X e st l U N D)
 (hr:∀j:Nat,j<co→Rel cur e.l (ktOf e) (decide (e.ow=(j:Int))) (hasM e.sh j) (hasM e.wa j) (bOf e j) (st' j) (l' j) (U' j) (N' j) (D' j)):LI co cur X e st' l' U' N' D':=
 ⟨h.good,h.lo,hr,h.data,h.mem0,h.mem1,h.wait1,h.wait2⟩
theorem LinI.same {co:Nat} {ps ps':List Pt} {cur X:List Int} {i:Nat} {e:En} (h:LinI co ps cur X i e) (hs:∀j,j<co→vst (atP ps' j) i=vst (atP ps j) i∧vln (atP ps' j) i=vln (atP ps j) i∧upL (atP ps' j) i=upL (atP ps j) i∧anL (atP ps' j) i=anL (atP ps j) i∧dnL (atP ps' j) i=dnL (atP ps j) i):LinI co ps' cur X i e:=by
 refine h.with fun j hj=>?_
 obtain ⟨h1,h2,h3,h4,h5⟩:=hs j hj
 rw [h1,h2,h3,h4,h5]
 exact h.rel j hj
theorem AOk.msg {li:Int} {st st':Int} {l l':List Int} {ms:List Ms} (h:AOk li st l st' l' ms) (hl:lineB li=true):∃m,ms=[m]∧m.li=li∧m.kd≤3∧asksB m.kd=true∧mg m=true:=by
 cases h with
 |askS=>exact ⟨_,rfl,rfl,by simp [ms4],rfl,by simp [mg,ms4,kindB,hl]⟩
 |askM=>exact ⟨_,rfl,rfl,by simp [ms4],rfl,by simp [mg,ms4,kindB,hl]⟩
 |up=>exact ⟨_,rfl,rfl,by simp [ms4],rfl,by simp [mg,ms4,kindB,hl]⟩
 |outS=>exact ⟨_,rfl,rfl,by simp [ms4],rfl,by simp [mg,ms4,kindB,hl]⟩
 |outE=>exact ⟨_,rfl,rfl,by simp [ms4],rfl,by simp [mg,ms4,kindB,hl]⟩
 |outM l m hk hli hd hke hm=>exact ⟨_,rfl,hli,by omega,by rw [hk];rfl,by simp [mg,hk,hli,hd,hke,kindB,mayD,hl]⟩
section
variable {co:Nat} {ps:List Pt} {cur X:List Int} {i:Nat} {e:En}
theorem LinI.ag (h:LinI co ps cur X i e) {n k:Nat} {x:Pt} (hn:n≤64) (hx:ps[k]? =some x) {s':Sta} {ms:List Ms} (ha:Asks n x.s s' ms):LinI co (ps.set k {x with s:=s',up:=x.up++ms}) cur X i e:=by
 have hk:=(List.getElem?_eq_some_iff.1 hx).1
 refine h.with fun j hj=>?_
 have hr:=h.rel j hj
 simp only [atP_set hk]
 by_cases hjk:j=k
 ·subst hjk
  simp only [atP_of hx] at hr
  simp only [if_true]
  rcases ha with ⟨rfl,hv⟩|⟨li,h0,hn',ha,ho⟩
  ·have e1:vst {x with s:=s',up:=x.up++[]} i=vst x i:=by unfold vst;rw [hv]
   have e2:vln {x with s:=s',up:=x.up++[]} i=vln x i:=by unfold vln;rw [hv]
   have e3:upL {x with s:=s',up:=x.up++[]} i=upL x i:=by unfold upL;rw [List.append_nil]
   rw [e1,e2,e3];exact hr
  ·obtain ⟨m,hm,hml,hmk,_⟩:=ha.msg (by unfold lineB;simp;omega)
   have e3:upL {x with s:=s',up:=x.up++ms} i=upL x i++ms.filter (fun m=>m.li==(i:Int)&&decide (m.kd≤3)):=by unfold upL;rw [List.filter_append]
   rw [e3]
   by_cases hi:li=(i:Int)
   ·subst hi
    have h2:=hr.ask ha.nat
    have e4:ms.filter (fun m=>m.li==(i:Int)&&decide (m.kd≤3))=ms:=by rw [hm];simp [hml,hmk]
    rw [e4]
    exact h2
   ·have e4:ms.filter (fun m=>m.li==(i:Int)&&decide (m.kd≤3))=[]:=by rw [hm];simp [hml,hi]
    have hv:=ho (i:Int) (fun e=>hi e.symm)
    have e1:vst {x with s:=s',up:=x.up++ms} i=vst x i:=by unfold vst;rw [hv]
    have e2:vln {x with s:=s',up:=x.up++ms} i=vln x i:=by unfold vln;rw [hv]
    rw [e4,List.append_nil,e1,e2];exact hr
 ·simp only [hjk,if_false];exact hr
theorem LI.ow_ne {co:Nat} {cur X:List Int} {e:En} {st:Nat→Nat} {l:Nat→List Int} {U N D:Nat→List Ms} (h:LI co cur X e st l U N D) {k:Nat} (hk:e.ow=(k:Int)):e.he=true∧e.sh=0#8∧∀j:Nat,j≠k→e.ow≠(j:Int):=by
 have hh:e.he=true:=by
  cases hh:e.he
  ·have he:e=enE:=by
    have:=h.good
    unfold goodE at this
    rw [if_neg (by simp [hh])] at this
    simpa using this
   rw [he] at hk
   have:(-1:Int)=(k:Int):=hk
   omega
  ·rfl
 obtain ⟨g1,_⟩:=(good_here hh).1 h.good
 refine ⟨hh,?_,fun j hj=>by omega⟩
 rcases g1 with h1|h1
 ·omega
 ·exact h1.2
theorem LinI.write (h:LinI co ps cur X i e) {k:Nat} {x:Pt} (hkc:k<co) (hx:ps[k]? =some x) {s':Sta} (cur':List Int) (hs:(vw x.s i).1=2∨(vw x.s i).1=3) (hv:vw s' i=(3,cur')):LinI co (ps.set k {x with s:=s'}) cur' X i e∧vln x i=cur:=by
 have hk:=(List.getElem?_eq_some_iff.1 hx).1
 have hrk:=h.rel k hkc
 simp only [atP_of hx] at hrk
 have hst:vst x i=2∨vst x i=3:=by unfold vst;omega
 obtain ⟨r1,r2,r3⟩:=hrk.write hst cur'
 have how:e.ow=(k:Int):=by simpa using r3
 obtain ⟨hh,hsh,hne⟩:=h.ow_ne how
 refine ⟨⟨h.good,h.lo,fun j hj=>?_,fun _ h1=>by omega,fun h1=>absurd (hh.symm.trans h1) (by decide),h.mem1,h.wait1,h.wait2⟩,r2⟩
 have hr:=h.rel j hj
 simp only [atP_set hk]
 by_cases hjk:j=k
 ·subst hjk
  simp only [if_true]
  have e1:vst {x with s:=s'} i=3:=by unfold vst;rw [hv];rfl
  have e2:vln {x with s:=s'} i=cur':=by unfold vln;rw [hv]
  rw [e1,e2]
  exact r1
 ·simp only [hjk,if_false]
  rw [decide_eq_false (hne j hjk),hsh,has_zero] at hr ⊢
  obtain ⟨h1,h2,h3⟩:=hr.none cur' e.l (ktOf e)
  rw [h1,h2];exact h3
theorem LinI.writeOff (h:LinI co ps cur X i e) {k:Nat} {x:Pt} (hx:ps[k]? =some x) {s':Sta} (hv:vw s' i=vw x.s i):LinI co (ps.set k {x with s:=s'}) cur X i e:=by
 have hk:=(List.getElem?_eq_some_iff.1 hx).1
 refine h.same fun j hj=>?_
 simp only [atP_set hk]
 by_cases hjk:j=k
 ·subst hjk
  simp only [if_true,atP_of hx]
  exact ⟨by unfold vst;rw [hv],by unfold vln;rw [hv],rfl,rfl,rfl⟩
 ·simp only [hjk,if_false,and_self]
theorem hv_ex (m:Ms) (x:Slt):∃st' l',HV m x st' l':=by
 refine ⟨if tb m.kd x.st=10 then 0 else if tb m.kd x.st=11 then x.st else tb m.kd x.st,if tb m.kd x.st=11 then x.l else wordsL m x (tb m.kd x.st),fun h=>by rw [if_pos h],fun h=>?_,fun h1 h2=>?_⟩
 ·rw [if_neg (by omega),if_pos h,if_pos h];exact ⟨rfl,rfl⟩
 ·rw [if_neg h1,if_neg h2,if_neg h2];exact ⟨rfl,rfl⟩
theorem dnL_cons {x:Pt} {m:Ms} {rest:List Ms} (hd:x.dn=m::rest) (i:Nat) (hm:m.li=(i:Int)) (h14:m.kd≠14):dnL x i=m::dnL {x with dn:=rest} i:=by
 unfold dnL
 rw [hd,List.filter_cons,if_pos (by simp [hm,h14])]
theorem dnL_skip {x:Pt} {m:Ms} {rest:List Ms} (hd:x.dn=m::rest) (i:Nat) (hm:m.li≠(i:Int)∨m.kd=14):dnL x i=dnL {x with dn:=rest} i:=by
 unfold dnL
 rw [hd,List.filter_cons,if_neg (by rcases hm with h|h<;>simp [h])]
theorem LinI.fits (h:LinI co ps cur X i e) {S N n k:Nat} {x:Pt} (hkc:k<co) (hx:ps[k]? =some x) (aj:AJ S N n x.s) {m:Ms} {rest:List Ms} (hd:x.dn=m::rest) (hm:m.li=(i:Int)):tb m.kd (vw x.s m.li).1≠0:=by
 by_cases h14:m.kd=14
 ·rw [h14];show (11:Int)≠0;decide
 ·have hr:=h.rel k hkc
  simp only [atP_of hx,dnL_cons hd i hm h14] at hr
  obtain ⟨st',l',hv⟩:=hv_ex m (findVal x.s.1 m.li)
  have h0:=(aj.sane1 m.li).1
  have hr':Rel cur e.l (ktOf e) (decide (e.ow=(k:Int))) (hasM e.sh k) (hasM e.wa k) (bOf e k) (findVal x.s.1 m.li).st.toNat (findVal x.s.1 m.li).l (upL x i) (anL x i) (m::dnL {x with dn:=rest} i):=by
   have e1:vst x i=(findVal x.s.1 m.li).st.toNat:=by unfold vst vw;rw [hm]
   have e2:vln x i=(findVal x.s.1 m.li).l:=by unfold vln vw;rw [hm]
   rw [←e1,←e2];exact hr
  exact (hr'.hear h0 (ktOf_or e) hv).1
theorem LinI.hear (h:LinI co ps cur X i e) {S N n k:Nat} {x:Pt} (hx:ps[k]? =some x) (aj:AJ S N n x.s) {m:Ms} {rest:List Ms} (hd:x.dn=m::rest) (hg:(mg m&&tellsB m.kd)=true) (hn:m.li<n) (ht:tb m.kd (vw x.s m.li).1≠0):
 LinI co (ps.set k {x with s:=(hearF S N x.s m).1,an:=x.an++answersL m.kd (findVal x.s.1 m.li) (tb m.kd (vw x.s m.li).1),dn:=rest}) cur X i e:=by
 have hk:=(List.getElem?_eq_some_iff.1 hx).1
 obtain ⟨_,_,ho,v10,v11,vno⟩:=aj.hearF hg hn ht
 refine h.with fun j hj=>?_
 have hr:=h.rel j hj
 simp only [atP_set hk]
 by_cases hjk:j=k
 ·subst hjk
  simp only [atP_of hx] at hr
  simp only [if_true]
  generalize hs':(hearF S N x.s m).1=s' at *
  have hal:m.kd≠14→∀a∈answersL m.kd (findVal x.s.1 m.li) (tb m.kd (vw x.s m.li).1),a.li=m.li:=by
   intro h14 a ha
   have hl:=(aj.line (tb_line ht h14)).2.2.1
   have htl:∀kd ke,(toldM kd (findVal x.s.1 m.li) ke).li=m.li:=by
    intro kd ke;unfold toldM;split
    ·exact hl
    ·exact hl
   unfold answersL at ha
   split at ha
   ·rw [List.mem_singleton] at ha;rw [ha,htl]
   ·split at ha
    ·rw [List.mem_singleton] at ha;rw [ha,htl]
    ·cases ha
  have ean:∀av:List Ms,anL {x with s:=s',an:=x.an++av,dn:=rest} i=anL x i++av.filter (fun m=>m.li==(i:Int)):=by intro av;unfold anL;rw [List.filter_append]
  have eup:∀av:List Ms,upL {x with s:=s',an:=x.an++av,dn:=rest} i=upL x i:=fun _=>rfl
  have edn:∀av:List Ms,dnL {x with s:=s',an:=x.an++av,dn:=rest} i=dnL {x with dn:=rest} i:=fun _=>rfl
  have evs:∀av:List Ms,vst {x with s:=s',an:=x.an++av,dn:=rest} i=(vw s' i).1.toNat:=fun _=>rfl
  have evl:∀av:List Ms,vln {x with s:=s',an:=x.an++av,dn:=rest} i=(vw s' i).2:=fun _=>rfl
  rw [ean,eup,edn,evs,evl]
  by_cases h14:m.kd=14
  ·have e1:answersL m.kd (findVal x.s.1 m.li) (tb m.kd (vw x.s m.li).1)=[]:=by rw [h14];rfl
   have e2:vw s' i=vw x.s i:=by
    by_cases hi:m.li=(i:Int)
    ·rw [←hi];exact v11 (by rw [h14];rfl)
    ·exact ho _ (fun e=>hi e.symm)
   rw [e1,e2,←dnL_skip hd i (.inr h14)]
   simp only [List.filter_nil,List.append_nil]
   exact hr
  ·by_cases hi:m.li=(i:Int)
   ·rw [dnL_cons hd i hi h14] at hr
    have e1:(answersL m.kd (findVal x.s.1 m.li) (tb m.kd (vw x.s m.li).1)).filter (fun m=>m.li==(i:Int))=answersL m.kd (findVal x.s.1 m.li) (tb m.kd (vw x.s m.li).1):=by
     rw [List.filter_eq_self]
     intro a ha
     rw [hal h14 a ha];simpa using hi
    rw [e1]
    have e2:vst x i=(findVal x.s.1 m.li).st.toNat:=by unfold vst vw;rw [hi]
    have e3:vln x i=(findVal x.s.1 m.li).l:=by unfold vln vw;rw [hi]
    rw [e2,e3] at hr
    refine (hr.hear (aj.sane1 m.li).1 (ktOf_or e) (st':=(vw s' i).1) (l':=(vw s' i).2) ⟨fun h1=>?_,fun h1=>?_,fun h1 h2=>?_⟩).2
    ·rw [←hi];exact v10 h1
    ·rw [←hi,v11 h1];exact ⟨rfl,rfl⟩
    ·rw [←hi,vno h1 h2];exact ⟨rfl,rfl⟩
   ·have e1:(answersL m.kd (findVal x.s.1 m.li) (tb m.kd (vw x.s m.li).1)).filter (fun m=>m.li==(i:Int))=[]:=by
     rw [List.filter_eq_nil_iff]
     intro a ha
     rw [hal h14 a ha];simpa using hi
    rw [e1,ho _ (fun e=>hi e.symm),←dnL_skip hd i (.inl hi),List.append_nil]
    exact hr
 ·simp only [hjk,if_false];exact hr
theorem sendP_at (a:Ms):∀(cs:List Int) (ps:List Pt),cs.Nodup→(∀c∈cs,0≤c∧c<ps.length)→(sendP ps (cs.map fun c=>(⟨c,a⟩:Sd))).length=ps.length∧∀j:Nat,j<ps.length→atP (sendP ps (cs.map fun c=>(⟨c,a⟩:Sd))) j=if (j:Int)∈cs then {atP ps j with dn:=(atP ps j).dn++[a]} else atP ps j
 |[],ps,_,_=>⟨rfl,fun j _=>by simp [sendP]⟩
 |c::cs,ps,hn,hc=>by
  obtain ⟨hc1,hc2⟩:=hc c (by simp)
  obtain ⟨p,rfl⟩:∃p:Nat,c=(p:Int):=⟨c.toNat,by omega⟩
  have hp:p<ps.length:=by omega
  have e1:sendP ps (((p:Int)::cs).map fun c=>(⟨c,a⟩:Sd))=sendP (ps.set p {atP ps p with dn:=(atP ps p).dn++[a]}) (cs.map fun c=>(⟨c,a⟩:Sd)):=by
   unfold sendP
   rw [List.map_cons,List.foldl_cons]
   congr 1
   unfold sendTo
   show (match ps[(p:Int).toNat]? with|some x=>_|none=>_)=_
   rw [Int.toNat_natCast,atP_mem hp]
  rw [List.nodup_cons] at hn
  obtain ⟨h1,h2⟩:=sendP_at a cs (ps.set p {atP ps p with dn:=(atP ps p).dn++[a]}) hn.2 (fun c hc'=>by rw [List.length_set];exact hc c (by simp [hc']))
  rw [e1]
  refine ⟨by rw [h1,List.length_set],fun j hj=>?_⟩
  rw [h2 j (by rw [List.length_set];exact hj),atP_set hp]
  by_cases hjp:j=p
  ·subst hjp
   rw [if_neg hn.1,if_pos rfl,if_pos (by simp)]
  ·simp only [hjp,if_false]
   by_cases hm:(j:Int)∈cs
   ·rw [if_pos hm,if_pos (by simp [hm])]
   ·rw [if_neg hm,if_neg (by simp [hm];omega)]
theorem coresL_nodup (o:Mk):(coresL o).Nodup:=by
 unfold coresL coresTo
 exact List.Nodup.sublist List.filter_sublist (by decide)
theorem has_isC {o:Mk} {c:Int} (h:hasM o c=true):isC c=true:=by
 cases hc:isC c
 ·rw [has_out hc] at h;cases h
 ·rfl
theorem sendP_tell (o:Mk) (a:Ms) (ps:List Pt) (h:∀j:Nat,j<8→hasM o j=true→j<ps.length):(sendP ps (tellL o a)).length=ps.length∧∀j:Nat,j<ps.length→atP (sendP ps (tellL o a)) j=if hasM o j=true then {atP ps j with dn:=(atP ps j).dn++[a]} else atP ps j:=by
 have:=sendP_at a (coresL o) ps (coresL_nodup o) (fun c hc=>by
  have h1:=(mem_cores o c).1 hc
  obtain ⟨j,hj,rfl⟩:=isC_nat (has_isC h1)
  have:=h j hj h1
  omega)
 refine ⟨this.1,fun j hj=>?_⟩
 rw [show tellL o a=(coresL o).map fun c=>(⟨c,a⟩:Sd) from rfl,this.2 j hj]
 by_cases hm:hasM o (j:Int)=true
 ·rw [if_pos hm,if_pos ((mem_cores o j).2 hm)]
 ·rw [if_neg hm,if_neg (fun h=>hm ((mem_cores o j).1 h))]
theorem LinI.sent (h:LinI co ps cur X i e) (hl:ps.length=co) {o:Mk} {a:Ms} (ho:∀j:Nat,j<8→hasM o j=true→j<co) (ha:a.li≠(i:Int)∨a.kd=14):LinI co (sendP ps (tellL o a)) cur X i e:=by
 obtain ⟨_,h2⟩:=sendP_tell o a ps (by rw [hl];exact ho)
 refine h.same fun j hj=>?_
 rw [h2 j (by omega)]
 split
 ·refine ⟨rfl,rfl,rfl,rfl,?_⟩
  unfold dnL
  rw [List.filter_append]
  have:[a].filter (fun m=>m.li==(i:Int)&&m.kd !=14)=[]:=by rcases ha with ha|ha<;>simp [ha]
  rw [this,List.append_nil]
 ·exact ⟨rfl,rfl,rfl,rfl,rfl⟩
theorem LinI.sends {st:Nat→Nat} {l:Nat→List Int} {U N:Nat→List Ms} {D:Nat→List Ms} {e':En} {o:Mk} {a:Ms} (h:LI co cur X e' st l U N (fun j=>D j++if hasM o j=true then [a] else [])) (hl:ps.length=co) (ho:∀j:Nat,j<8→hasM o j=true→j<co) (ha:a.li=(i:Int)) (h14:a.kd≠14)
 (hs:∀j,j<co→vst (atP ps j) i=st j∧vln (atP ps j) i=l j∧upL (atP ps j) i=U j∧anL (atP ps j) i=N j∧dnL (atP ps j) i=D j):LinI co (sendP ps (tellL o a)) cur X i e':=by
 obtain ⟨_,h2⟩:=sendP_tell o a ps (by rw [hl];exact ho)
 refine h.with fun j hj=>?_
 have hr:=h.rel j hj
 obtain ⟨h3,h4,h5,h6,h7⟩:=hs j hj
 simp only [h2 j (show j<ps.length by omega)]
 rw [←h3,←h4,←h5,←h6,←h7] at hr
 by_cases hm:hasM o (j:Int)=true
 ·rw [if_pos hm]
  have e1:dnL {atP ps j with dn:=(atP ps j).dn++[a]} i=dnL (atP ps j) i++if hasM o (j:Int)=true then [a] else []:=by
   unfold dnL
   rw [List.filter_append,if_pos hm]
   congr 1
   simp [ha,h14]
  rw [e1];exact hr
 ·rw [if_neg hm]
  rw [if_neg hm,List.append_nil] at hr
  exact hr
theorem upL_cons {x:Pt} {m:Ms} {rest:List Ms} (hd:x.up=m::rest) (i:Nat) (hm:m.li=(i:Int)) (h3:m.kd≤3):upL x i=m::upL {x with up:=rest} i:=by
 unfold upL
 rw [hd,List.filter_cons,if_pos (by simp [hm,h3])]
theorem upL_skip {x:Pt} {m:Ms} {rest:List Ms} (hd:x.up=m::rest) (i:Nat) (hm:m.li≠(i:Int)∨¬m.kd≤3):upL x i=upL {x with up:=rest} i:=by
 unfold upL
 rw [hd,List.filter_cons,if_neg (by rcases hm with h|h<;>simp [h])]
theorem anL_cons {x:Pt} {m:Ms} {rest:List Ms} (hd:x.an=m::rest) (i:Nat) (hm:m.li=(i:Int)):anL x i=m::anL {x with an:=rest} i:=by
 unfold anL
 rw [hd,List.filter_cons,if_pos (by simp [hm])]
theorem anL_skip {x:Pt} {m:Ms} {rest:List Ms} (hd:x.an=m::rest) (i:Nat) (hm:m.li≠(i:Int)):anL x i=anL {x with an:=rest} i:=by
 unfold anL
 rw [hd,List.filter_cons,if_neg (by simp [hm])]
theorem LinI.up (h:LinI co ps cur X i e) (h8:co≤8) (hl:ps.length=co) (hX:X.length=8) (hb:e.bu=0) {k:Nat} {x:Pt} (hx:ps[k]? =some x) {m:Ms} {rest:List Ms} (hu:x.up=m::rest) (hm:asksB m.kd=true) (hg:mg m=true) (hi:m.li=(i:Int)):
 ∃(o:Mk) (a:Ms) (e':En),askE (hereP e X hX) k m=((e',tellL o a),0)∧TellOk m.li a∧(∀j:Nat,j<8→hasM o j=true→j<co)∧LinI co (sendP (ps.set k {x with up:=rest}) (tellL o a)) cur X i e':=by
 have hk:=(List.getElem?_eq_some_iff.1 hx).1
 obtain ⟨h1,hh,hbb⟩:=LI.here h hX
 have hb':(hereP e X hX).bu=0:=hbb.trans hb
 have hli:lineB m.li=true:=by simp only [mg,Bool.and_eq_true] at hg;exact hg.1.1.1.2
 obtain ⟨o,a,d1,d2,d3,d4⟩:=LI.deed h1 h8 hh hb' (k:=k) (by omega) hm hli (V:=upL {x with up:=rest} i) (fun h3=>by simp only [atP_of hx];exact upL_cons hu i hi h3)
 have harg:askArg (hereP e X hX) k m=true:=by simp [askArg,h1.good,isC_cast (show k<8 by omega),hg,hm]
 refine ⟨o,a,(deedE (hereP e X hX) k m).1,?_,d2,d3,?_⟩
 ·unfold askE
  rw [if_pos harg,if_neg (by rw [hb'];decide),if_neg (by rw [hh];decide),←d1]
 ·refine LinI.sends d4 (by rw [List.length_set];exact hl) d3 (by rw [d2.2.2.1,hi]) d2.2.2.2 fun j hj=>?_
  simp only [atP_set hk]
  by_cases hjk:j=k
  ·subst hjk
   simp only [if_true,atP_of hx,and_true]
   refine ⟨rfl,rfl,?_,rfl,rfl⟩
   by_cases h3:m.kd≤3
   ·simp only [h3,if_true]
   ·simp only [h3,if_false];exact (upL_skip hu i (.inr h3)).symm
  ·simp only [hjk,if_false,and_false,and_self]
theorem LinI.upOff (h:LinI co ps cur X i e) (hl:ps.length=co) {k:Nat} {x:Pt} (hx:ps[k]? =some x) {m:Ms} {rest:List Ms} (hu:x.up=m::rest) (hi:m.li≠(i:Int)) {o:Mk} {a:Ms} (ho:∀j:Nat,j<8→hasM o j=true→j<co) (ha:TellOk m.li a):LinI co (sendP (ps.set k {x with up:=rest}) (tellL o a)) cur X i e:=by
 have hk:=(List.getElem?_eq_some_iff.1 hx).1
 refine LinI.sent (h.same fun j hj=>?_) (by rw [List.length_set];exact hl) ho (.inl (by rw [ha.2.2.1];exact hi))
 simp only [atP_set hk]
 by_cases hjk:j=k
 ·subst hjk
  simp only [if_true,atP_of hx]
  exact ⟨rfl,rfl,(upL_skip hu i (.inl hi)).symm,rfl,rfl⟩
 ·simp only [hjk,if_false,and_self]
theorem LinI.answer (h:LinI co ps cur X i e) (h8:co≤8) (hl:ps.length=co) {k:Nat} {x:Pt} (hx:ps[k]? =some x) {m:Ms} {rest:List Ms} (hu:x.an=m::rest) (hm:answersB m.kd=true) (hg:mg m=true) (hi:m.li=(i:Int)):
 ∃(o:Mk) (a:Ms) (e':En),ansE e k m=((e',tellL o a),0)∧TellOk m.li a∧(∀j:Nat,j<8→hasM o j=true→j<co)∧LinI co (sendP (ps.set k {x with an:=rest}) (tellL o a)) cur X i e':=by
 have hk:=(List.getElem?_eq_some_iff.1 hx).1
 obtain ⟨o,a,d0,d1,d2,d3,d4⟩:=LI.answered h h8 (k:=k) (by omega) hm hg (V:=anL {x with an:=rest} i) (by simp only [atP_of hx];exact anL_cons hu i hi)
 refine ⟨o,a,(ansE e k m).1.1,?_,d2,d3,?_⟩
 ·rw [←d1,←d0]
 ·refine LinI.sends d4 (by rw [List.length_set];exact hl) d3 (by rw [d2.2.2.1,hi]) d2.2.2.2 fun j hj=>?_
  simp only [atP_set hk]
  by_cases hjk:j=k
  ·subst hjk
   simp only [if_true,atP_of hx]
   exact ⟨rfl,rfl,rfl,trivial,rfl⟩
  ·simp only [hjk,if_false,and_self]
theorem LinI.answerOff (h:LinI co ps cur X i e) (hl:ps.length=co) {k:Nat} {x:Pt} (hx:ps[k]? =some x) {m:Ms} {rest:List Ms} (hu:x.an=m::rest) (hi:m.li≠(i:Int)) {o:Mk} {a:Ms} (ho:∀j:Nat,j<8→hasM o j=true→j<co) (ha:TellOk m.li a):LinI co (sendP (ps.set k {x with an:=rest}) (tellL o a)) cur X i e:=by
 have hk:=(List.getElem?_eq_some_iff.1 hx).1
 refine LinI.sent (h.same fun j hj=>?_) (by rw [List.length_set];exact hl) ho (.inl (by rw [ha.2.2.1];exact hi))
 simp only [atP_set hk]
 by_cases hjk:j=k
 ·subst hjk
  simp only [if_true,atP_of hx]
  exact ⟨rfl,rfl,rfl,(anL_skip hu i hi).symm,rfl⟩
 ·simp only [hjk,if_false,and_self]
theorem LinI.push (h:LinI co ps cur X i e) (hd:readyE e=true) {X':List Int} (hX:X'=e.l):LinI co ps cur X' i ((overE e).setDi false):=by
 have fit:=push_fit hd
 have hb:e.bu=4∨e.bu=5:=by simp only [readyE,Bool.and_eq_true,Bool.or_eq_true,beq_iff_eq] at hd;exact hd.1.2
 have hw:e.wa=0#8:=by simp only [readyE,Bool.and_eq_true,beq_iff_eq] at hd;exact hd.2
 have hh:e.he=true:=fit.1
 have hg:goodE ((overE e).setDi false)=true:=fit.2.1
 refine ⟨hg,⟨h.lo.1,?_,h.lo.2.2.1,fun j _ h1=>?_⟩,fun j hj=>?_,h.data,fun h1=>absurd (hh.symm.trans h1) (by decide),fun _ _=>hX,fun h1=>absurd (show (0:Int)=1 from h1) (by decide),fun h1=>absurd (show (0:Int)=2 from h1) (by decide)⟩
 ·obtain ⟨p,hp,he⟩:=isC_nat (by rcases ((good_here hh).1 h.good).2 with ⟨h1,_⟩|⟨_,h1,_⟩|⟨_,h1⟩;omega;exact h1.1;exact h1.1)
  have:=h.lo.2.1
  show (0:Int)<co
  omega
 ·have h2:hasM 0#8 (j:Int)=true:=h1
  rw [has_zero] at h2;cases h2
 ·have hr:=h.rel j hj
  rw [hw,has_zero,bOf_fl j hb] at hr
  show Rel cur e.l (ktOf ((overE e).setDi false)) (decide (e.ow=(j:Int))) (hasM e.sh j) (hasM 0#8 j) (bOf ((overE e).setDi false) j) _ _ _ _ _
  rw [has_zero,bOf_0 (show ((overE e).setDi false).bu=0 from rfl)]
  exact (hr.anyKt _).1
theorem LinI.mem (h:LinI co ps cur X i e) {X':List Int} (hX:X'=X):LinI co ps cur X' i e:=by subst hX;exact h
end
end
end Go.Proofs.YtcjoinhngdfdmaaGreatDoor
