/- Texts of the walk, one behind the other: Mgb Mgc Dpv Dpw Mgd Mge Mgf Psa Pua Coa Prg Coi. No condition. -/
import Derived.Test.YtcjoinhngdfdmaaGreatDoorCLag
import Derived.Test.YtcjoinhngdfdmaaGreatDoorCLai
import Derived.Test.YtcjoinhngdfdmaaGreatDoorCLak
import Derived.Test.YtcjoinhngdfdmaaGreatDoorCLal
import Derived.Test.YtcjoinhngdfdmaaGreatDoorCLam
import Derived.Test.YtcjoinhngdfdmaaGreatDoorCLan
import Derived.BigQuiet
import Derived.Deep.Cut
import Derived.Deep.CutBlock
import Derived.Deep.CutRange
import Derived.Deep.DeepCutAuto
import Derived.Deep.QuietTactic
import Derived.Deep.RegionHeld3
import Derived.Deep.RegionLaw
import Derived.Deep.RegionWith
namespace Go.Proofs.YtcjoinhngdfdmaaGreatDoor
open Go.RowKit
set_option linter.unusedVariables false
set_option maxHeartbeats 1000000
set_option maxRecDepth 100000
attribute [local go_sem ↓] append_appS copy_copS clear_clrS make_mkS cell_row frozen_row loadLine storeLine loadSlot storeSlot heap_drew heap_drewN heap_alloc heap_past heap_setCell heap_putRow slc_st slc_li slc_us slice_slS loadMsg storeMsg loadHas storeHas msc_kd msc_li msc_di msc_ke
attribute [local go_sem] rowCell_some rowFrozen_some rowHas_some rowIn_some rowPart_full rowPut_full rowSet_some vs_size vs_one wideLine wideSlot run_loadS run_storeS run_appS run_copS run_clrS run_mkS loadW_at storeW_at fit_all fit_le one_int one_bool one_pointer one_slice allOne_list putRow_new ne_size1 ne_size2 zero8_length lines_nil line_eq lit8 slc_size slc_one slc_part fold_slt fold_slc slc_set_us wideMsg wideHas run_slS msc_size msc_one msc_part fold_msc msc_putDi msc_putKe msc_putX ms4_lit
attribute [local simp ↓] heap_drew heap_drewN heap_alloc heap_past heap_setCell heap_putRow
attribute [local simp] rowCell_some rowFrozen_some rowHas_some rowIn_some rowPart_full rowPut_full rowSet_some vs_size fit_all putRow_new ne_size1 ne_size2 zero8_length slc_size msc_size msc_putDi msc_putKe msc_putX fit_le
attribute [local go_sem ↓] ec_he ec_di ec_ow ec_sh ec_bu ec_by ec_wa sc_to
attribute [local go_sem] mi_and mi_or mi_not mi_beq0 mi_bne0 ec_size ec_one ec_part ec_in ec_has ec_setDi ec_setOw ec_setSh ec_setBu ec_setBy ec_setWa ec_setSh0 ec_setWa0 ec_putM sc_size sc_one sc_part
attribute [local simp] ec_size sc_size ec_setDi ec_setOw ec_setSh ec_setBu ec_setBy ec_setWa ec_setSh0 ec_setWa0 ec_putM
attribute [local go_sem ↓] loadEn storeEn loadSd storeSd en_z0
attribute [local go_sem] wideEn wideSd fold_sc size11 putRow_newB putRow_newC ms5_lit
attribute [local simp] en_z0 putRow_newB putRow_newC fit_le ec_has
attribute [local go_sem ↓] mlitZ zenc_po zenc_en zenc_q
attribute [local simp] mlitZ
section
attribute [local go_sem ↓] loadCg cg_li cg_vo cg_qu
attribute [local go_sem] wideCg cg_size cg_one cg_part
section
variable {W w:World} {c:Cg} {sy:Nat} {F:List Nat} {ps:List Pt} {en:List En} {es:List Ent} {xs:List Int} (hm:Mem W w c sy F ps en es xs)
include hm
end
def kc:Cg:=⟨2,6,1,1,2,2,2⟩
theorem kc_ok:kc.Ok:=⟨by decide,by decide,by decide,by decide,by decide,by decide,by decide,by decide,by decide,by decide,by decide⟩
def ke3:En:=⟨true,true,[0,7,0,0,0,0,0,0], -1,3#8,0,0,0#8,rfl⟩
theorem results_cg {fn:Func} {p:Tmp} (h:fn.results=#[.cell p 28]) (tmps:Array Value) (w:World) (b:Nat) (x:Cg) (fr:Nat×Nat)
 (hp:tmps.getD p undef=.pointer (some ⟨b,0,none⟩)) (hb:w.heap[b]? =some (.cells x.cells 28 fr)):(results fn tmps).run Tryz.prog w=.ok (.agg x.cells) w:=by
 have hp':tmps[p]?.getD undef=.pointer (some ⟨b,0,none⟩):=by simpa using hp
 have:=run_loadVar_row (P:=Tryz.prog) w b 28 28 x.cells fr _ hb Tryz.underlying28 rfl (by rw [cg_size];kernel_rfl)
 simp [results,h,hp',asAddr,this]
def cgZ:Cg:=⟨0,0,0,0,0,0,0⟩
theorem kc_lit:(#[.int .i64 2,.int .i64 6,.int .i64 1,.int .i64 1,.int .i64 2,.int .i64 2,.int .i64 2]:Array Value)=kc.cells:=rfl
theorem storeCg (x y:Value):Instr.storeAt 28 x y=storeS 28 7 x y:=rfl
attribute [local go_sem ↓] storeCg
theorem kplain (w:World):Calls Tryz.prog 11 #[] w fun e w'=>e=.returned (.agg kc.cells)∧Chg [] w w':=by
 go_enter Tryz.func11,Tryz.ntmps11
 try dsimp only [List.append]
 go_wp2_with fail
 refine bodyPost_ret (v:=.agg kc.cells) ?_ (by rfl) ?_
 ·exact results_cg (by rfl) _ _ w.heap.size kc (0,0) (by rfl) (by rw [←kc_lit];simp)
 ·exact ⟨rfl,by (repeat' (first |with_reducible exact Chg.refl _ _|with_reducible assumption|with_reducible refine Chg.drew ?_|with_reducible refine Chg.drewN ?_ _|with_reducible refine Chg.alloc ?_ _|with_reducible refine Chg.putRow ?_ _ _ _ (.inr ?_)|with_reducible refine Chg.setCell ?_ _ _ _ (.inr ?_)|(show _≤_;first |exact Nat.le_refl _|omega|(simp;done))))⟩
theorem enc_part (z:Lay) (c:Cg) (t:TypeId) (f:Nat×Nat):rowPart (some (.cells (z.enc c).toArray t f)) 0 7=c.cells:=by
 rw [rowPart_some];rfl
theorem enc_in (z:Lay) (c:Cg) (t:TypeId) (f:Nat×Nat):rowIn (some (.cells (z.enc c).toArray t f)) 0 7=true:=by
 rw [rowIn_some]
 exact decide_eq_true (show 0+7≤(z.enc c).toArray.size by simp [Lay.enc,Cg.enc])
theorem zconfig_ok {W w:World} {c:Cg} {z:Lay} {L:List (Po×Pt)} {en:List En} {es:List Ent} {xs:List Int} (h:Msd W w c z L en es xs):Calls Tryz.prog 84 #[.pointer (some ⟨z.sy,0,none⟩)] w fun e w'=>e=.returned (.agg c.cells)∧Chg [] w w':=by
 have rS:=h.sys
 have oS:=old rS
 have p0:=fun t f=>enc_part z c t f
 have p1:=fun t f=>enc_in z c t f
 clear h
 go_enter Tryz.func84,Tryz.ntmps84
 try dsimp only [List.append]
 go_wp2_with fail
 refine bodyPost_ret (v:=.agg c.cells) ?_ (by rfl) ?_
 ·exact results_cg (by rfl) _ _ w.heap.size c (0,0) (by rfl) (by rw [heap_putRow _ _ _ _ _ (by rw [new_blk];rfl),if_pos rfl,new_blk];exact rowPut_full _ _ _ _ (by rw [cg_size];rfl))
 ·exact ⟨rfl,by (repeat' (first |with_reducible exact Chg.refl _ _|with_reducible assumption|with_reducible refine Chg.drew ?_|with_reducible refine Chg.drewN ?_ _|with_reducible refine Chg.alloc ?_ _|with_reducible refine Chg.putRow ?_ _ _ _ (.inr ?_)|with_reducible refine Chg.setCell ?_ _ _ _ (.inr ?_)|(show _≤_;first |exact Nat.le_refl _|omega|(simp;done))))⟩
theorem mconfig_ok {W w:World} {c:Cg} {sy:Nat} {F:List Nat} {ps:List Pt} {en:List En} {es:List Ent} {xs:List Int} (hm:Mem W w c sy F ps en es xs):Calls Tryz.prog 84 #[.pointer (some ⟨sy,0,none⟩)] w fun e w'=>e=.returned (.agg c.cells)∧Chg [] w w':=by
 obtain ⟨z,L,rfl,rfl,rfl,h⟩:=hm
 exact zconfig_ok h
theorem kfield_sh (W:World):(Instr.field 129 (.agg (ec ke3)) 4).run Tryz.prog W=.ok (.int .u8 3) W:=by kernel_rfl
theorem kfield_co (W:World):(Instr.field 28 (.agg kc.cells) 0).run Tryz.prog W=.ok (.int .i64 2) W:=by kernel_rfl
attribute [local go_sem ↓] kfield_sh kfield_co
end
section
structure MStp where
 kd:Int
 co:Int
 li:Int
 wd:Int
 v:Int
def mstc (x:MStp):Array Value:=#[.int .i64 x.kd,.int .i64 x.co,.int .i64 x.li,.int .i64 x.wd,.int .u64 x.v]
theorem mstc_size (x:MStp):(mstc x).size=5:=rfl
theorem mstc_0 (x:MStp):(mstc x)[0]? =some (.int .i64 x.kd):=rfl
theorem mstc_1 (x:MStp):(mstc x)[1]? =some (.int .i64 x.co):=rfl
theorem mstc_2 (x:MStp):(mstc x)[2]? =some (.int .i64 x.li):=rfl
theorem mstc_3 (x:MStp):(mstc x)[3]? =some (.int .i64 x.wd):=rfl
theorem mstc_4 (x:MStp):(mstc x)[4]? =some (.int .u64 x.v):=rfl
attribute [local go_sem ↓] mstc_0 mstc_1 mstc_2 mstc_3 mstc_4
attribute [local go_sem] mstc_size
theorem cgZ_field (W:World):(Instr.field 28 (.agg cgZ.cells) 0).run Tryz.prog W=.ok (.int .i64 0) W:=by kernel_rfl
attribute [local go_sem ↓] cgZ_field
end
end Go.Proofs.YtcjoinhngdfdmaaGreatDoor
namespace Go.Proofs.YtcjoinhngdfdmaaGreatDoor
open Go.RowKit
set_option linter.unusedVariables false
set_option maxHeartbeats 1000000
attribute [local go_sem ↓] append_appS copy_copS clear_clrS make_mkS slice_slS cell_row frozen_row loadLine storeLine loadMsg storeMsg heap_drew heap_drewN heap_alloc heap_past heap_setCell heap_putRow msc_kd msc_li msc_di msc_ke
attribute [local go_sem] rowCell_some rowFrozen_some rowHas_some rowIn_some rowPart_full rowPut_full rowSet_some vs_size vs_one wideLine wideMsg run_loadS run_storeS run_appS run_copS run_clrS run_mkS run_slS loadW_at storeW_at fit_all fit_le one_int one_bool one_pointer one_slice allOne_list putRow_new ne_size1 ne_size2 zero8_length line_eq lit8 msc_size msc_one msc_part fold_msc
attribute [local simp ↓] heap_drew heap_drewN heap_alloc heap_past heap_setCell heap_putRow
attribute [local simp] rowCell_some rowFrozen_some rowHas_some rowIn_some rowPart_full rowPut_full rowSet_some vs_size fit_all putRow_new ne_size1 ne_size2 zero8_length msc_size
attribute [local go_sem ↓] ec_he ec_di ec_ow ec_sh ec_bu ec_by ec_wa sc_to
attribute [local go_sem] mi_and mi_or mi_not mi_beq0 mi_bne0 ec_size ec_one ec_part ec_in ec_has ec_setDi ec_setOw ec_setSh ec_setBu ec_setBy ec_setWa ec_setSh0 ec_setWa0 ec_putM sc_size sc_one sc_part
attribute [local simp] ec_size sc_size ec_setDi ec_setOw ec_setSh ec_setBu ec_setBy ec_setWa ec_setSh0 ec_setWa0 ec_putM
section
attribute [local go_sem ↓] loadEn storeEn loadSd storeSd
attribute [local go_sem] wideEn wideSd
attribute [local go_sem] fold_sc
attribute [local go_sem] size11
attribute [local go_sem ↓] en_z0
attribute [local simp] en_z0
attribute [local go_sem] putRow_newB putRow_newC
attribute [local simp] putRow_newB putRow_newC fit_le ec_has
def SdsV (w:World) (xs:List Sd):Ending→World→Prop:=fun e w'=>∃A c be,e=.returned (.slice A xs.length c)∧Vec 13 142 Sd.enc w' 0 be A c xs∧(be=0∨w.heap.size≤be)∧Chg [] w w'
theorem dtellv_any (s:Mk) (m:Ms) (w:World) (h0:Old w 0):Calls Tryz.prog 115 #[.int .u8 (mi s),.agg (msc m)] w (SdsV w (tellL s m)):=by
 have H0:=Lib.hid h0
 have h8:=cores_len s
 clear h0
 go_enter Tryz.func115,Tryz.ntmps115
 try dsimp only [List.append]
 go_wp2_with fail
 refine gen_calls1 (w:=w) (b1:=w.heap.size) (x1:=.cells (msc m) 50 (0,0)) (by (repeat' (first |exact Chg.refl _ _|assumption|exact Chg.refl [] _|refine Chg.drew ?_|refine Chg.drewN ?_ _|refine Chg.alloc ?_ _|refine Chg.putRow ?_ _ _ _ (.inr (by first |exact Nat.le_refl _|omega|simp))|refine Chg.setCell ?_ _ _ _ (.inr (by first |exact Nat.le_refl _|omega|simp))))) (by simp) fun w1 C1 rM=>?_
 have oM:=old rM
 refine (gcores_any s w1 (H0.out.chg C1)).mono ?_
 rintro e w2 ⟨A,cp0,rfl,hs,hA,c2⟩
 have rM2:=c2.keep rM (by simp)
 have HA:=Lib.hid hs
 have C2:=Lib.hid (C1.trans c2)
 have HL:∃n,n=(coresL s).length:=⟨_,rfl⟩
 obtain ⟨N,hN⟩:=HL
 rw [←hN] at HA h8 ⊢
 have HN:=Lib.hid hN
 clear hs hA c2 C1 rM oM hN
 go_wp2_with fail
 go_loopw [5,11] (fun x i wr=>∃(k be cp:Nat) (B:Option Addr) (xs:List Sd),k≤N∧i=.int .i64 k∧xs=(tellL s m).take k∧x=.slice B xs.length cp∧Chg [] w2 wr∧Vec 13 142 Sd.enc wr 0 be B cp xs∧(be=0∨w2.heap.size≤be)) (fun _ i _=>N-(intOf i).toNat)
 case atStart=>exact ⟨0,0,0,none,[],by omega,rfl,rfl,rfl,Chg.refl _ _,Vec.nil _ _ _ _ _,.inl rfl⟩
 case round=>
  obtain ⟨k,be,cp,B,xs,hk,rfl,hxs,rfl,hc,hvb,hbe⟩:=hrel
  by_cases hlt:k<N
  ·have g1:(k:Int)<(N:Int):=by omega
   have g0:(0:Int)≤(k:Int):=by omega
   have g2:(N:Int)≤8:=by omega
   obtain ⟨b,o,rfl⟩:=HA.out.addr (by omega)
   obtain ⟨cs,t,f,hb,hcell⟩:=(HA.out.chg hc (by simp)).cell hlt
   obtain ⟨y,hy⟩:∃y,(coresL s)[k]? =some y:=⟨(coresL s)[k]'(by rw [←HN.out];exact hlt),List.getElem?_eq_getElem _⟩
   rw [List.getElem?_map,hy] at hcell
   simp only [Option.map_some] at hcell
   have rMr:=hc.keep rM2 (by simp)
   have oM:=old rMr
   have ht:xs++[⟨y,m⟩]=(tellL s m).take (k+1):=by rw [hxs,List.take_add_one];simp [tellL,hy]
   have hlen:xs.length≤8:=by rw [hxs,List.length_take];omega
   obtain ⟨be',cap',A',w3,happ,hv2,hbe2,hc2⟩:=Vec.acc (ty:=130) eltSd (hc.alloc (.cells (sc ⟨y,m⟩) 142)) (hvb.keep ((Chg.refl [] wr).alloc (.cells (sc ⟨y,m⟩) 142)) (by simp)) hbe ((H0.out.chg C2.out)) (sd_slice wr ⟨y,m⟩) (c:=1) rfl (by omega) (by unfold maxLen;omega)
   have HT:=Lib.hid ht
   have HL:=Lib.hid (show xs.length+1=(xs++[(⟨y,m⟩:Sd)]).length by rw [List.length_append];rfl)
   have HV2:=Lib.hid hv2
   have HB2:=Lib.hid hbe2
   have HC2:=Lib.hid hc2
   have hsd:=fun C h h0=>sd_lit y m C h h0
   clear hvb hc hbe hy ht hlen hv2 hbe2 hc2 hxs
   go_wp2_with fail
   go_roundw
   case rel=>exact ⟨k+1,be',cap',A',xs++[⟨y,m⟩],by omega,by go_num,HT.out,by rw [←HL.out],HC2.out,HV2.out,HB2.out⟩
   case measure=>simp [intOf];omega
  ·obtain rfl:k=N:=by omega
   have hall:xs=tellL s m:=by rw [hxs];exact List.take_of_length_le (by rw [HN.out];simp [tellL])
   have HV:=Lib.hid hvb
   have HC:=Lib.hid (C2.out.trans hc)
   have HB:=Lib.hid (show be=0∨w.heap.size≤be by have:=C2.out.size;omega)
   clear hvb hc hbe hxs
   go_wp2_with fail
   go_ret
   rw [←hall]
   exact ⟨_,_,_,rfl,HV.out,HB.out,HC.out⟩
end
section
set_option maxRecDepth 100000
attribute [local go_sem ↓] loadEn storeEn loadSd storeSd en_z0
attribute [local go_sem] wideEn wideSd fold_sc size11 putRow_newB putRow_newC ms5_lit
attribute [local simp] en_z0 putRow_newB putRow_newC fit_le ec_has
theorem dtellv4_any (s:Mk) (kd li:Int) (di ke:Bool) (w:World) (h0:Old w 0):Calls Tryz.prog 115 #[.int .u8 (mi s),.agg #[.int .i64 kd,.int .i64 li,.bool di,.bool ke,.int .u64 0,.int .u64 0,.int .u64 0,.int .u64 0,.int .u64 0,.int .u64 0,.int .u64 0,.int .u64 0]] w (SdsV w (tellL s (ms4 kd li di ke)))
 :=dtellv_any s (ms4 kd li di ke) w h0
def En3V (w:World) (r:(En×List Sd)×Int):Ending→World→Prop:=fun e w'=>∃A c be,e=.returned (.tuple #[.agg (ec r.1.1),.slice A r.1.2.length c,.int .i64 r.2])∧Vec 13 142 Sd.enc w' 0 be A c r.1.2∧(be=0∨w.heap.size≤be)∧Chg [] w w'
theorem En3V.err (w w':World) (n:Int) (h:Chg [] w w'):En3V w ((enZ,[]),n) (.returned (.tuple #[.agg (ec enZ),.slice none 0 0,.int .i64 n])) w':=⟨none,0,0,rfl,.inl ⟨rfl,rfl,rfl,rfl⟩,.inl rfl,h⟩
theorem dpushedv_any (x:En) (w:World) (h0:Old w 0):Calls Tryz.prog 64 #[.agg (ec x)] w (En3V w (pushedE x)):=by
 cases hr:readyE x
 ·rw [show pushedE x=((enZ,[]),16) from by simp [pushedE,hr]]
  go_enter Tryz.func64,Tryz.ntmps64
  try dsimp only [List.append]
  go_wp2_with fail
  refine gen_calls2 (w:=w) (b1:=w.heap.size) (x1:=.cells (ec (x)) 129 (0,0)) (b2:=w.heap.size+1) (x2:=.cells (ec (enZ)) 129 (0,0)) (by (repeat' (first |with_reducible exact Chg.refl _ _|with_reducible assumption|with_reducible refine Chg.drew ?_|with_reducible refine Chg.drewN ?_ _|with_reducible refine Chg.alloc ?_ _|with_reducible refine Chg.putRow ?_ _ _ _ (.inr ?_)|with_reducible refine Chg.setCell ?_ _ _ _ (.inr ?_)|(show _≤_;first |exact Nat.le_refl _|omega|(simp;done))))) (by simp [*]) (by simp [*]) fun w1 C1 rE rR=>?_
  have oE:=old rE
  have oR:=old rR
  refine (dready_at x _ hr w1).mono ?_
  rintro e w3 ⟨rfl,c3⟩
  have rE3:=c3.keep rE (by simp)
  have rR3:=c3.keep rR (by simp)
  have C3:=C1.trans c3
  clear rE rR oE oR C1 c3
  have oE3:=old rE3
  have oR3:=old rR3
  go_wp2_with fail
  refine bodyPost_ret (v:=.tuple #[.agg (ec enZ),.slice none 0 0,.int .i64 16]) ?_ (by rfl) ?_
  ·exact results_en3 (by rfl) _ _ (w.heap.size+1) enZ (0,0) (by rfl) (by simp [rR3];try rfl) _ _ (by rfl) (by rfl)
  exact En3V.err _ _ _ (by (repeat' (first |with_reducible exact Chg.refl _ _|with_reducible assumption|with_reducible refine Chg.drew ?_|with_reducible refine Chg.drewN ?_ _|with_reducible refine Chg.alloc ?_ _|with_reducible refine Chg.putRow ?_ _ _ _ (.inr ?_)|with_reducible refine Chg.setCell ?_ _ _ _ (.inr ?_)|(show _≤_;first |exact Nat.le_refl _|omega|(simp;done)))))
 ·rw [show pushedE x=(((overE x).setDi false,tellL (bitM x.by_) (ms4 14 0 false false)),0) from by simp [pushedE,hr]]
  go_enter Tryz.func64,Tryz.ntmps64
  try dsimp only [List.append]
  go_wp2_with fail
  refine gen_calls2 (w:=w) (b1:=w.heap.size) (x1:=.cells (ec (x)) 129 (0,0)) (b2:=w.heap.size+1) (x2:=.cells (ec (enZ)) 129 (0,0)) (by (repeat' (first |with_reducible exact Chg.refl _ _|with_reducible assumption|with_reducible refine Chg.drew ?_|with_reducible refine Chg.drewN ?_ _|with_reducible refine Chg.alloc ?_ _|with_reducible refine Chg.putRow ?_ _ _ _ (.inr ?_)|with_reducible refine Chg.setCell ?_ _ _ _ (.inr ?_)|(show _≤_;first |exact Nat.le_refl _|omega|(simp;done))))) (by simp [*]) (by simp [*]) fun w1 C1 rE rR=>?_
  have oE:=old rE
  have oR:=old rR
  refine (dready_at x _ hr w1).mono ?_
  rintro e w3 ⟨rfl,c3⟩
  have rE3:=c3.keep rE (by simp)
  have rR3:=c3.keep rR (by simp)
  have C3:=C1.trans c3
  clear rE rR oE oR C1 c3
  have oE3:=old rE3
  have oR3:=old rR3
  go_wp2_with fail
  refine (dover_any x w3).mono ?_
  rintro e w4 ⟨rfl,c4⟩
  have rE4:=c4.keep rE3 (by simp)
  have rR4:=c4.keep rR3 (by simp)
  have C4:=C3.trans c4
  clear rE3 rR3 oE3 oR3 C3 c4
  have oE4:=old rE4
  have oR4:=old rR4
  go_wp2_with fail
  refine gen_world2 (w:=w) (b1:=w.heap.size) (x1:=.cells (ec ((overE x).setDi false)) 129 (0,0)) (b2:=w.heap.size+1) (x2:=.cells (ec (enZ)) 129 (0,0)) (by (repeat' (first |with_reducible exact Chg.refl _ _|with_reducible assumption|with_reducible refine Chg.drew ?_|with_reducible refine Chg.drewN ?_ _|with_reducible refine Chg.alloc ?_ _|with_reducible refine Chg.putRow ?_ _ _ _ (.inr ?_)|with_reducible refine Chg.setCell ?_ _ _ _ (.inr ?_)|(show _≤_;first |exact Nat.le_refl _|omega|(simp;done))))) (by simp (maxDischargeDepth:=8) [*];try rfl) (by simp (maxDischargeDepth:=8) [*];try rfl) fun w1 C1 rE rR=>?_
  have oE:=old rE
  have oR:=old rR
  have o0:=h0.chg C1
  go_region_held3 (fun w'=>w'.heap[w.heap.size]? =some (.cells (ec ((overE x).setDi false)) 129 (0,0))) (first |exact rE|exact c2.keep rE (by simp)|exact c2.keep (by simp [*]) (by simp)|simp [*])
   (first
    |(go_at_call 116;refine (gbit_any _ _).mono ?_;rintro e w' ⟨rfl,rfl⟩)
    |(go_at_call 115;refine (dtellv4_any _ _ _ _ _ _ (by first |exact o0|exact o0.chg C1|(show (0:Nat)<_;simpa using o0.lt))).mono ?_;rintro e w' ⟨A2,n2,be,rfl,hs2,hA2,c2⟩;(have hA3:be=0∨w1.heap.size≤be:=(by simpa using hA2));(first |(have rR2:=c2.keep rR (by simp))|(have rR2:=c2.keep (x:=.cells (ec ((overE x).setDi false)) 129 (0,0)) (k:=w.heap.size+1) (by simp [rR]) (by simp)))))
  all_goals
   go_wp2_with fail
   refine bodyPost_ret (v:=.tuple #[.agg (ec ((overE x).setDi false)),.slice A2 (tellL (bitM x.by_) (ms4 14 0 false false)).length n2,.int .i64 0]) ?_ (by rfl) ?_
   ·exact results_en3 (by rfl) _ _ (w.heap.size+1) _ (0,0) (by rfl) (by first |exact rR2|(simp [rR2];done)) _ _ (by rfl) (by rfl)
   refine ⟨A2,n2,be,rfl,?_,hA3.imp id (Nat.le_trans C1.size),by (repeat' (first |with_reducible exact Chg.refl _ _|with_reducible assumption|with_reducible refine Chg.drew ?_|with_reducible refine Chg.drewN ?_ _|with_reducible refine Chg.alloc ?_ _|with_reducible refine Chg.putRow ?_ _ _ _ (.inr ?_)|with_reducible refine Chg.setCell ?_ _ _ _ (.inr ?_)|with_reducible refine Chg.trans ?_ c2|with_reducible refine Chg.trans (b:=World.drew _) ?_ c2|(show _≤_;first |exact Nat.le_refl _|omega|(simp;done))))⟩
   first
    |exact hs2
    |exact hs2.keep ((Chg.refl [w.heap.size+1] _).putRow _ _ _ (.inl (by simp))) (by have:=oR.lt;simp;omega)
end
end Go.Proofs.YtcjoinhngdfdmaaGreatDoor
namespace Go.Proofs.YtcjoinhngdfdmaaGreatDoor
open Go.RowKit
set_option linter.unusedVariables false
set_option maxHeartbeats 1000000
set_option maxRecDepth 100000
attribute [local go_sem ↓] append_appS copy_copS clear_clrS make_mkS cell_row frozen_row loadLine storeLine loadSlot storeSlot heap_drew heap_drewN heap_alloc heap_past heap_setCell heap_putRow slc_st slc_li slc_us slice_slS loadMsg storeMsg loadHas storeHas msc_kd msc_li msc_di msc_ke
attribute [local go_sem] rowCell_some rowFrozen_some rowHas_some rowIn_some rowPart_full rowPut_full rowSet_some vs_size vs_one wideLine wideSlot run_loadS run_storeS run_appS run_copS run_clrS run_mkS loadW_at storeW_at fit_all fit_le one_int one_bool one_pointer one_slice allOne_list putRow_new ne_size1 ne_size2 zero8_length lines_nil line_eq lit8 slc_size slc_one slc_part fold_slt fold_slc slc_set_us wideMsg wideHas run_slS msc_size msc_one msc_part fold_msc msc_putDi msc_putKe msc_putX ms4_lit
attribute [local simp ↓] heap_drew heap_drewN heap_alloc heap_past heap_setCell heap_putRow
attribute [local simp] rowCell_some rowFrozen_some rowHas_some rowIn_some rowPart_full rowPut_full rowSet_some vs_size fit_all putRow_new ne_size1 ne_size2 zero8_length slc_size msc_size msc_putDi msc_putKe msc_putX fit_le
attribute [local go_sem ↓] ec_he ec_di ec_ow ec_sh ec_bu ec_by ec_wa sc_to
attribute [local go_sem] mi_and mi_or mi_not mi_beq0 mi_bne0 ec_size ec_one ec_part ec_in ec_has ec_setDi ec_setOw ec_setSh ec_setBu ec_setBy ec_setWa ec_setSh0 ec_setWa0 ec_putM sc_size sc_one sc_part
attribute [local simp] ec_size sc_size ec_setDi ec_setOw ec_setSh ec_setBu ec_setBy ec_setWa ec_setSh0 ec_setWa0 ec_putM
attribute [local go_sem ↓] loadEn storeEn loadSd storeSd en_z0
attribute [local go_sem] wideEn wideSd fold_sc size11 putRow_newB putRow_newC ms5_lit
attribute [local simp] en_z0 putRow_newB putRow_newC fit_le ec_has
section
attribute [local go_sem ↓] mlitZ zenc_po zenc_en zenc_q
attribute [local simp] mlitZ
section
variable {W:World} {c:Cg} {z:Lay} {L:List (Po×Pt)} {en:List En} {es:List Ent} {xs:List Int}
theorem zpush_off (k:Int) (w:World) (h:Msd W w c z L en es xs) (hk:inB k c.li=false):Calls Tryz.prog 24 #[.pointer (some ⟨z.sy,0,none⟩),.int .i64 k] w fun r w'=>r=.returned (.int .i64 1)∧w=w':=by
 have HH:=Lib.hid h
 have HK:=Lib.hid hk
 clear h hk
 go_enter Tryz.func24,Tryz.ntmps24
 try dsimp only [List.append]
 go_wp2_with (first |(go_at_call 63;refine (isline_at k false HK.out _ HH.out).mono ?_;rintro e w' ⟨rfl,rfl⟩))
 go_ret
 exact ⟨rfl,rfl⟩
theorem zpush_wait (i:Nat) (e:En) (w:World) (h:Msd W w c z L en es xs) (hT:Tab W) (he:en[i]? =some e) (hd:readyE e=false):Calls Tryz.prog 24 #[.pointer (some ⟨z.sy,0,none⟩),.int .i64 i] w fun r w'=>r=.returned (.int .i64 16)∧Chg [] w w':=by
 have hi:i<c.li:=by rw [←h.lines];exact (List.getElem?_eq_some_iff.1 he).1
 have rS:=h.sys
 have rE:=h.ents
 have oS:=old rS
 have oE:=old rE
 have p0:=fun t f=>erow he t f
 have p1:=fun t f=>erowIn he t f
 have g0:(0:Int)≤(i:Int):=by omega
 have g1:(i:Int)<(c.li:Int):=by omega
 have HH:=Lib.hid h
 have HB:=Lib.hid (show inB (i:Int) c.li=true by unfold inB;simp;omega)
 have HE:=Lib.hid he
 have HT:=Lib.hid (hT.keep h.chg (by simp)).old0
 have HP:=Lib.hid (show pushedE e=((enZ,[]),16) by unfold pushedE;rw [if_neg (by simp [hd])])
 have HK:=Lib.hid (fun w1 (o:Old w1 0)=>HP.out▸dpushedv_any e w1 o)
 clear h he hi hd hT
 go_enter Tryz.func24,Tryz.ntmps24
 try dsimp only [List.append]
 go_wp2_with (first |(go_at_call 63;refine (isline_at (i:Int) true HB.out _ HH.out).mono ?_;rintro e w' ⟨rfl,rfl⟩))
 refine (HK.out _ HT.out).mono ?_
 rintro r w2 ⟨A,n,be1,rfl,hs,hA,hc⟩
 have HC:=Lib.hid hc
 clear hs hA hc rS rE oS oE
 go_wp2_with fail
 go_ret
 exact ⟨rfl,HC.out.alloc _⟩
theorem MTo.aside {w w1 w2:World} {z':Lay} {L':List (Po×Pt)} {b:Nat} (h:MTo W w c z L z' L' en es xs w1) (hb:w.heap.size≤b) (hW:W.heap.size≤w.heap.size) (hn:b∉z'.all L') (hc:Chg [b] w1 w2):MTo W w c z L z' L' en es xs w2:=
 ⟨h.1.keepL hc (by simpa using hn) (by simp;omega),h.2.1.trans' hc (by simp;omega),h.2.2⟩
theorem list_set13 (l ys:List Value) (o:Nat) (v:Value) (h:(l.drop o).take 13=ys):((l.set (o+2) v).drop o).take 13=ys.set 2 v:=by
 subst h
 rw [List.drop_set,if_neg (by omega),show o+2-o=2 by omega,List.take_set]
theorem sd_line (tk k l:Int) (a b:Bool) (v:Int):(Sd.enc ⟨tk,ms4 k l a b⟩).set 2 (.int .i64 v)=Sd.enc ⟨tk,ms4 k v a b⟩:=by rfl
theorem zpush_go (i:Nat) (e:En) (w:World) (h:Msd W w c z L en es xs) (hT:Tab W) (he:en[i]? =some e) (hd:readyE e=true) (hc:isC e.by_=true) (hco:e.by_<c.co) (hg:mg (ms4 14 i false false)=true) (v:Int) (hv:saveV c es i e=v) (es':List Ent) (hs:saveEs c es i e=es') (M:Nat) (hM:∀x∈ports L,x.dn.length≤M) (hMn:M+1≤1000):
 Calls Tryz.prog 24 #[.pointer (some ⟨z.sy,0,none⟩),.int .i64 i] w fun r w'=>(v≠0∧r=.returned (.int .i64 v)∧∃be',MTo W w c z L {z with be:=be'} L en es' xs w')∨
  (v=0∧r=.returned (.int .i64 0)∧∃be' ks' L',MTo W w c z L {z with be:=be',ks:=ks'} L' (en.set i ((overE e).setDi false)) es' xs w'∧ports L'=sendP (ports L) [⟨e.by_,ms4 14 i false false⟩]):=by
 have hi:i<c.li:=by rw [←h.lines];exact (List.getElem?_eq_some_iff.1 he).1
 have rS:=h.sys
 have rE:=h.ents
 have oS:=old rS
 have oE:=old rE
 have p0:=fun t f=>erow he t f
 have p1:=fun t f=>erowIn he t f
 have g0:(0:Int)≤(i:Int):=by omega
 have g1:(i:Int)<(c.li:Int):=by omega
 have HH:=Lib.hid h
 have HB:=Lib.hid (show inB (i:Int) c.li=true by unfold inB;simp;omega)
 have HE:=Lib.hid he
 have HT0:=Lib.hid (hT.keep h.chg (by simp)).old0
 have HT:=Lib.hid hT
 have HP:=Lib.hid (show pushedE e=(((overE e).setDi false,[⟨e.by_,ms4 14 0 false false⟩]),0) by unfold pushedE;rw [if_pos hd,tell_one hc])
 have HK:=Lib.hid (fun w1 (o:Old w1 0)=>HP.out▸dpushedv_any e w1 o)
 have HS:=Lib.hid (fun w1 (c1:Chg [] w w1)=>hs▸hv▸zsave_ok i e w1 (h.keep c1) he)
 have HMM:=Lib.hid hM
 have HMN:=Lib.hid hMn
 have HG:=Lib.hid hg
 have HCO:=Lib.hid hco
 have HC:=Lib.hid (show 0≤e.by_ by unfold isC at hc;simp at hc;omega)
 have HEX:=Lib.hid (show ∃e',(overE e).setDi false=e' from ⟨_,rfl⟩)
 clear h he hi hd hv hs hT hM hMn hg hco hc
 obtain ⟨e',he'⟩:=HEX.out
 rw [he'] at HK ⊢
 have HE':=Lib.hid he'
 clear he' HEX HP
 go_enter Tryz.func24,Tryz.ntmps24
 try dsimp only [List.append]
 go_wp2_with (first |(go_at_call 63;refine (isline_at (i:Int) true HB.out _ HH.out).mono ?_;rintro e w' ⟨rfl,rfl⟩))
 refine (HK.out _ HT0.out).mono ?_
 rintro r w2 ⟨A,n,b,rfl,hs,hA,hc⟩
 rcases hs with ⟨_,_,_,hs⟩|⟨hb0,rfl,_,r0,rb,_⟩
 ·cases hs
 have hbw:w.heap.size≤b:=hA.resolve_left hb0
 have hx:((sq Sd.enc [(⟨e.by_,ms4 14 0 false false⟩:Sd)] r0).toList.drop 0).take 13=Sd.enc ⟨e.by_,ms4 14 0 false false⟩:=by
  simp [sq,cat,Sd.len]
 generalize sq Sd.enc [(⟨e.by_,ms4 14 0 false false⟩:Sd)] r0=cs at rb hx
 have HX:=Lib.hid hx
 have C2:=Lib.hid hc
 have HBW:=Lib.hid hbw
 have ob:=old rb
 clear hx hc hA hbw hb0 rS rE oS oE
 go_wp2_with fail
 have r3:(w2.alloc (.cells (ec e') 129)).heap[w2.heap.size]? =some (.cells (ec e') 129 (0,0)):=new_blk _ _
 have C3:=Lib.hid (C2.out.alloc (.cells (ec e') 129))
 have HW3:=Lib.hid (show w.heap.size≤w2.heap.size from C2.out.size)
 replace rb:=((Chg.refl [] w2).alloc (.cells (ec e') 129)).keep rb List.not_mem_nil
 have nb3:b≠w2.heap.size:=by have:=ob.lt;omega
 generalize w2.heap.size=b3 at r3 HW3 nb3 ⊢
 generalize w2.alloc (.cells (ec e') 129)=w3 at r3 C3 rb ⊢
 clear ob
 have HNB:=Lib.hid (show b∉z.all L from fun hm=>by have h1:=HH.out.old b hm;have h2:=HBW.out;omega)
 have HN3:=Lib.hid (show b3∉z.all L from fun hm=>by have h1:=HH.out.old b3 hm;have h2:=HW3.out;omega)
 have HL3:=Lib.hid (lt_heap rb)
 refine (HS.out _ C3.out).mono ?_
 rintro r w4 ⟨rfl,be',M4⟩
 have HM4:=Lib.hid M4
 replace rb:=M4.2.1.keep rb HNB.out
 replace r3:=M4.2.1.keep r3 HN3.out
 clear M4 C2
 have ob:=old rb
 have o3:=old r3
 by_cases hv:v=0
 ·obtain rfl:=hv
  have HZB:=Lib.hid (show b∉({z with be:=be'}:Lay).all L from fun hm=>by rcases HM4.out.2.2 b hm with h1|h1;exact HNB.out h1;have:=HL3.out;omega)
  go_wp2_with fail
  go_loopw [37] (fun ix wr=>∃(j:Nat) (cs':Array Value),j≤1∧ix=.int .i64 j∧Chg [b] w4 wr∧wr.heap[b]? =some (.cells cs' 142 (0,0))∧(j=0→cs'=cs)∧(j=1→cs'=cs.setIfInBounds 2 (.int .i64 i))) (fun ix _=>1-(intOf ix).toNat)
  case atStart=>exact ⟨0,cs,by omega,rfl,Chg.refl _ _,rb,fun _=>rfl,by omega⟩
  case round=>
   obtain ⟨j,cs',hj,rfl,hc,hb,h0,h1⟩:=hrel
   have r3':=hc.keep r3 (by simp;omega)
   have HC0:=Lib.hid hc
   have H1:=Lib.hid h1
   clear hc h1 rb r3 ob o3
   by_cases hlt:j<1
   ·obtain rfl:j=0:=by omega
    obtain rfl:=h0 rfl
    have hcl:cs'[2]? =some (.int .i64 0):=by
     have h2:=congrArg (fun l=>l[2]?) HX.out
     rw [List.getElem?_take_of_lt (by omega),List.getElem?_drop,Array.getElem?_toList] at h2
     exact h2
    clear h0 hlt hj
    have ob:=old hb
    go_wp2_with fail
    refine ⟨⟨1,cs'.setIfInBounds 2 (.int .i64 i),by omega,rfl,HC0.out.setCell _ _ _ (.inl (by simp)),by rw [heap_setCell,if_pos rfl,hb];rfl,by omega,fun _=>rfl⟩,by simp [intOf]⟩
   ·obtain rfl:j=1:=by omega
    obtain rfl:=H1.out rfl
    have hsl:Sl wr 13 (some ⟨b,0,none⟩) 1 (cat Sd.enc [⟨e.by_,ms4 14 i false false⟩]):=⟨by simp [cat,Sd.len],.inr ⟨b,0,_,142,(0,0),rfl,hb,by
     rw [Array.toList_setIfInBounds,list_set13 _ _ 0 _ HX.out,sd_line];simp [cat]⟩⟩
    have HM5:=Lib.hid (((HH.out.stay C3.out).trans HM4.out).aside HBW.out HH.out.chg.size HZB.out HC0.out)
    have hbec:=zbecome_ok i e e' (some ⟨b,0,none⟩) 1 n [⟨e.by_,ms4 14 i false false⟩] wr HM5.out.1 HT.out HE.out rfl hsl (fun _ a ha=>by cases ha;exact HZB.out) (by
     intro d hd
     simp only [List.mem_singleton] at hd
     subst hd
     exact ⟨HC.out,HCO.out,HG.out⟩) M HMM.out HMN.out
    have HBE:=Lib.hid hbec
    clear hsl hbec h0 hb hlt hj
    have o3:=old r3'
    go_wp2_with fail
    refine HBE.out.mono ?_
    rintro r w6 ⟨rfl,L',M6,hp⟩
    have HM6:=Lib.hid (HM5.out.trans M6)
    have HPP:=Lib.hid hp
    clear M6 hp r3' o3
    go_wp2_with fail
    refine (HM6.out.1.count 13 (by decide) (by decide)).mono ?_
    rintro r w7 ⟨⟨v,rfl⟩,ks',M7⟩
    have HM7:=Lib.hid (HM6.out.trans M7)
    clear M7
    go_wp2_with fail
    go_ret
    have hfin:∃be' ks' L',MTo W w c z L {z with be:=be',ks:=ks'} L' (en.set i e') es' xs w7∧ports L'=sendP (ports L) [⟨e.by_,ms4 14 i false false⟩]:=⟨be',ks',L',HM7.out,HPP.out⟩
    first
     |exact .inr ⟨rfl,rfl,hfin⟩
     |exact ⟨rfl,hfin⟩
 ·have tv:(v !=0)=true:=by simpa using hv
  go_wp2_with fail
  go_ret
  first
   |exact .inl ⟨hv,rfl,be',(HH.out.stay C3.out).trans HM4.out⟩
   |exact ⟨rfl,be',(HH.out.stay C3.out).trans HM4.out⟩
end
end
section
section
variable {W w w':World} {c:Cg} {sy:Nat} {F:List Nat} {ps:List Pt} {en:List En} {es:List Ent} {xs:List Int} (hm:Mem W w c sy F ps en es xs)
include hm
theorem mpush_off (k:Int) (hk:inB k c.li=false):Calls Tryz.prog 24 #[.pointer (some ⟨sy,0,none⟩),.int .i64 k] w fun e w'=>e=.returned (.int .i64 1)∧w=w':=by
 obtain ⟨z,L,rfl,rfl,rfl,h⟩:=hm
 exact zpush_off k w h hk
theorem mpush_wait (i:Nat) (e:En) (hT:Tab W) (he:en[i]? =some e) (hd:readyE e=false):Calls Tryz.prog 24 #[.pointer (some ⟨sy,0,none⟩),.int .i64 i] w fun r w'=>r=.returned (.int .i64 16)∧Chg [] w w':=by
 obtain ⟨z,L,rfl,rfl,rfl,h⟩:=hm
 exact zpush_wait i e w h hT he hd
theorem mpush_go (i:Nat) (e:En) (hT:Tab W) (he:en[i]? =some e) (hd:readyE e=true) (hc:isC e.by_=true) (hco:e.by_<c.co) (hg:mg (ms4 14 i false false)=true) (v:Int) (hv:saveV c es i e=v) (es':List Ent) (hs:saveEs c es i e=es') (M:Nat) (hM:∀x∈ps,x.dn.length≤M) (hMn:M+1≤1000):
 Calls Tryz.prog 24 #[.pointer (some ⟨sy,0,none⟩),.int .i64 i] w fun r w'=>(v≠0∧r=.returned (.int .i64 v)∧MemTo W w c sy F ps en es' xs w')∨(v=0∧r=.returned (.int .i64 0)∧MemTo W w c sy F (sendP ps [⟨e.by_,ms4 14 i false false⟩]) (en.set i ((overE e).setDi false)) es' xs w'):=by
 obtain ⟨z,L,rfl,rfl,rfl,h⟩:=hm
 refine (zpush_go i e w h hT he hd hc hco hg v hv es' hs M hM hMn).mono fun r w' hr2=>?_
 rcases hr2 with ⟨h1,h2,be',M1⟩|⟨h1,h2,be',ks',L',M1,hp2⟩
 ·exact .inl ⟨h1,h2,MemTo.of M1 rfl rfl⟩
 ·exact .inr ⟨h1,h2,MemTo.of M1 rfl hp2⟩
end
end
end Go.Proofs.YtcjoinhngdfdmaaGreatDoor
namespace Go.Proofs.YtcjoinhngdfdmaaGreatDoor
open Go.RowKit
set_option linter.unusedVariables false
set_option maxHeartbeats 1000000
section
def MTS (W w:World) (c:Cg) (sy:Nat) (F:List Nat) (S:Mst) (w':World):Prop:=MemTo W w c sy F S.ps S.en S.es S.xs w'
def MS (W w:World) (c:Cg) (sy:Nat) (F:List Nat) (S:Mst):Prop:=Mem W w c sy F S.ps S.en S.es S.xs
theorem tellL_len (o:Mk) (a:Ms):(tellL o a).length≤8:=by
 unfold tellL coresL
 rw [List.length_map]
 exact coresTo_len o 8
theorem tellL_to {o:Mk} {a:Ms} {co:Nat} (ho:∀j:Nat,j<8→hasM o j=true→j<co) (ha:mg a=true):∀d∈tellL o a,0≤d.to∧d.to<co∧mg d.m=true:=by
 intro d hd
 obtain ⟨h1,h2⟩:=tell_mem hd
 obtain ⟨j,hj,he⟩:=isC_nat (has_isC h1)
 rw [he] at h1
 have:=ho j hj h1
 exact ⟨by omega,by omega,by rw [h2];exact ha⟩
section
variable {W w:World} {c:Cg} {sy n:Nat} {F:List Nat} {S:Mst} {cur:Nat→List Int} (hm:MS W w c sy F S) (hI:Inv c n S cur)
include hm
include hI
end
end
section
structure Quiet (c:Cg) (S:Mst):Prop where
 q:∀j,j<c.co→(atP S.ps j).up=[]∧(atP S.ps j).an=[]∧(atP S.ps j).dn=[]
 bu:∀e∈S.en,e.bu=0
section
variable {c:Cg} {n:Nat} {S:Mst} {cur:Nat→List Int} (h:Inv c n S cur) (hq:Quiet c S)
include h hq
end
end
section
def Roomy (c:Cg) (S:Mst):Prop:=∀j,j<c.co→(atP S.ps j).up.length≤980∧(atP S.ps j).an.length≤980∧(atP S.ps j).dn.length≤980
theorem Roomy.of {c:Cg} {n:Nat} {S:Mst} {cur:Nat→List Int} (h:Inv c n S cur) (hn:n≤980):Roomy c S:=by
 intro j hj
 have:=h.pt j hj
 have h1:=this.up
 have h2:=this.an
 have h3:=this.dn
 omega
theorem Roomy.dnB {c:Cg} {n:Nat} {S:Mst} {cur:Nat→List Int} (hQ:Roomy c S) (h:Inv c n S cur):∀x∈S.ps,x.dn.length≤980:=by
 intro x hx
 obtain ⟨j,hj⟩:=List.getElem?_of_mem hx
 have hjl:=(List.getElem?_eq_some_iff.1 hj).1
 have:=(hQ j (by rw [←h.co];exact hjl)).2.2
 rw [atP_of hj] at this
 exact this
section
variable {W w:World} {c:Cg} {sy n:Nat} {F:List Nat} {S:Mst} {cur:Nat→List Int} (hm:MS W w c sy F S) (hI:Inv c n S cur)
include hm
theorem MS.sameU {w':World} (hc:Chg [] w w'):MTS W w c sy F S w':=Mem.stay hm hc
include hI
theorem uload (hn:n≤1000000000) (hQ:Roomy c S) (hT:Tab W) (k li wd:Int):
 Calls Tryz.prog 138 #[.pointer (some ⟨sy,0,none⟩),.int .i64 k,.int .i64 li,.int .i64 wd] w fun e w'=>e=.returned (.tuple #[.int .u64 (loadM c S k li wd).2.v,.bool (loadM c S k li wd).2.hit])∧MTS W w c sy F (loadM c S k li wd).1 w':=by
 unfold loadM
 cases hp:portAt c S k with
 |none=>exact (mload_no hm k li wd (hI.portNone hp)).mono fun e w' h=>⟨h.1,MS.sameU hm (h.2▸Chg.refl [] w)⟩
 |some x=>
  obtain ⟨j,rfl,hj,hx,hat,hP,_⟩:=hI.port hp
  have hQj:=hQ j hj
  rw [hat] at hQj
  have hus:x.s.2≤1000000000:=by have:=hP.us;omega
  have hq:x.up.length<1000:=by have:=hQj.1;omega
  have h64:=hI.ok.li64
  dsimp only
  by_cases hl:inB li c.li=true
  ·rw [if_pos hl]
   obtain ⟨_,b,_⟩:=hP.aj.loadF (inB_iff.1 hl).2 wd
   exact mload_ok hm j li wd x hx hT hl hus hq (b.msgs h64).2 (b.msgs h64).1
  ·rw [if_neg hl]
   exact (mload_off hm j li wd hj (by simpa using hl)).mono fun e w' h=>⟨h.1,MS.sameU hm (h.2▸Chg.refl [] w)⟩
theorem ustore (hn:n≤1000000000) (hQ:Roomy c S) (hT:Tab W) (k li wd v:Int):
 Calls Tryz.prog 88 #[.pointer (some ⟨sy,0,none⟩),.int .i64 k,.int .i64 li,.int .i64 wd,.int .u64 v] w fun e w'=>e=.returned (.bool (storeM c S k li wd v).2.hit)∧MTS W w c sy F (storeM c S k li wd v).1 w':=by
 unfold storeM
 cases hp:portAt c S k with
 |none=>exact (mstore_no hm k li wd v (hI.portNone hp)).mono fun e w' h=>⟨h.1,MS.sameU hm (h.2▸Chg.refl [] w)⟩
 |some x=>
  obtain ⟨j,rfl,hj,hx,hat,hP,_⟩:=hI.port hp
  have hQj:=hQ j hj
  rw [hat] at hQj
  have hus:x.s.2≤1000000000:=by have:=hP.us;omega
  have hq:x.up.length<1000:=by have:=hQj.1;omega
  have h64:=hI.ok.li64
  dsimp only
  by_cases hl:inB li c.li=true
  ·rw [if_pos hl]
   have hms:(storeF c.se c.wa x.s li wd v).2.2.length≤1∧∀m∈(storeF c.se c.wa x.s li wd v).2.2,mg m=true:=by
    obtain ⟨_,⟨_,_,_,_,b4,_,_⟩|⟨_,b2⟩⟩:=hP.aj.storeF (inB_iff.1 hl).2 wd v
    ·rw [b4];exact ⟨Nat.zero_le _,fun m hm=>by cases hm⟩
    ·exact b2.msgs h64
   exact mstore_ok hm j li wd v x hx hT hl hus hq hms.2 hms.1
  ·rw [if_neg hl]
   exact (mstore_off hm j li wd v hj (by simpa using hl)).mono fun e w' h=>⟨h.1,MS.sameU hm (h.2▸Chg.refl [] w)⟩
theorem ureach (hn:n≤1000000000) (hQ:Roomy c S) (hT:Tab W) (k li:Int):
 Calls Tryz.prog 140 #[.pointer (some ⟨sy,0,none⟩),.int .i64 k,.int .i64 li] w fun e w'=>e=.returned (.bool (reachM c S k li).2.hit)∧MTS W w c sy F (reachM c S k li).1 w':=by
 unfold reachM
 cases hp:portAt c S k with
 |none=>exact (mreach_no hm k li (hI.portNone hp)).mono fun e w' h=>⟨h.1,MS.sameU hm (h.2▸Chg.refl [] w)⟩
 |some x=>
  obtain ⟨j,rfl,hj,hx,hat,hP,_⟩:=hI.port hp
  have hQj:=hQ j hj
  rw [hat] at hQj
  have hus:x.s.2≤1000000000:=by have:=hP.us;omega
  have hq:x.up.length<1000:=by have:=hQj.1;omega
  have h64:=hI.ok.li64
  dsimp only
  by_cases hl:inB li c.li=true
  ·rw [if_pos hl]
   by_cases ho:ownsB x.s.1 li=true
   ·rw [if_pos ho]
    exact (mreach_own hm j li x hx hl ho).mono fun e w' h=>⟨h.1,MS.sameU hm h.2⟩
   ·rw [if_neg ho]
    obtain ⟨_,b⟩:=hP.aj.reachF (inB_iff.1 hl).2
    exact mreach_ok hm j li x hx hT hl (by simpa using ho) hus hq (b.msgs h64).2 (b.msgs h64).1
  ·rw [if_neg hl]
   exact (mreach_off hm j li hj (by simpa using hl)).mono fun e w' h=>⟨h.1,MS.sameU hm (h.2▸Chg.refl [] w)⟩
theorem uflush (hn:n≤1000000000) (hQ:Roomy c S) (hT:Tab W) (k li kd:Int):
 Calls Tryz.prog 90 #[.pointer (some ⟨sy,0,none⟩),.int .i64 k,.int .i64 li,.int .i64 kd] w fun e w'=>e=.returned (.int .i64 (flushM c S k li kd).2.e)∧MTS W w c sy F (flushM c S k li kd).1 w':=by
 unfold flushM
 cases hp:portAt c S k with
 |none=>exact (mflush_no hm k li kd (hI.portNone hp)).mono fun e w' h=>⟨h.1,MS.sameU hm (h.2▸Chg.refl [] w)⟩
 |some x=>
  obtain ⟨j,rfl,hj,hx,hat,hP,_⟩:=hI.port hp
  have hQj:=hQ j hj
  rw [hat] at hQj
  have hus:x.s.2≤1000000000:=by have:=hP.us;omega
  have hq:x.up.length<1000:=by have:=hQj.1;omega
  have h64:=hI.ok.li64
  dsimp only
  by_cases hl:inB li c.li=true
  ·by_cases hk:kd=4∨kd=5
   ·rw [if_pos ⟨hl,hk⟩]
    have hmg:=(hI.flush hj hx hl hk).2
    rcases hk with rfl|rfl
    ·exact mflush_4 hm j li x hx hT hl hq hmg
    ·exact mflush_5 hm j li x hx hT hl hq hmg
   ·rw [if_neg (fun h=>hk h.2)]
    exact (mflush_kind hm j li kd hj hl (fun h=>hk (.inl h)) (fun h=>hk (.inr h))).mono fun e w' h=>⟨h.1,MS.sameU hm (h.2▸Chg.refl [] w)⟩
  ·rw [if_neg (fun h=>hl h.1)]
   exact (mflush_off hm j li kd hj (by simpa using hl)).mono fun e w' h=>⟨h.1,MS.sameU hm (h.2▸Chg.refl [] w)⟩
theorem uup (hn:n≤1000000000) (hQ:Roomy c S) (hT:Tab W) (k:Int):
 Calls Tryz.prog 19 #[.pointer (some ⟨sy,0,none⟩),.int .i64 k] w fun e w'=>e=.returned (.int .i64 (upM c S k).2.e)∧MTS W w c sy F (upM c S k).1 w':=by
 unfold upM
 cases hp:portAt c S k with
 |none=>exact (mup_no hm k (hI.portNone hp)).mono fun e w' h=>⟨h.1,MS.sameU hm (h.2▸Chg.refl [] w)⟩
 |some x=>
  obtain ⟨j,rfl,hj,hx,hat,hP,_⟩:=hI.port hp
  have hQj:=hQ j hj
  rw [hat] at hQj
  have hus:x.s.2≤1000000000:=by have:=hP.us;omega
  have hq:x.up.length<1000:=by have:=hQj.1;omega
  have h64:=hI.ok.li64
  dsimp only
  cases hu:x.up with
  |nil=>exact (mup_none hm j x hx hu).mono fun e w' h=>⟨h.1,MS.sameU hm h.2⟩
  |cons m rest=>
   obtain ⟨i,e,hi,hic,he,hc⟩:=hI.up hj hx hu
   have ei:i=m.li.toNat:=by omega
   subst ei
   dsimp only
   rw [he]
   dsimp only
   have hX:ln (over S.xs S.es) m.li.toNat=lnG S.X m.li.toNat:=(lnG_eq (hI.ln8 hic)).symm
   rcases hc with ⟨_,h2⟩|⟨_,o,a,e',h2,h3,h4,_⟩
   ·rw [h2,if_neg (by decide)]
    refine (mup_go hm j m.li.toNat x hx m rest e enZ (lnG S.X m.li.toNat) (lnG_len _ _) [] 15 hT hu (by omega) hi he hX h2 (fun d hd=>by cases hd) 980 (hQ.dnB hI) (by show 980+0≤1000;omega)).mono fun r w' hr=>?_
    rcases hr with ⟨_,q2,q3⟩|⟨q1,_⟩
    ·exact ⟨q2,q3⟩
    ·exact absurd q1 (by decide)
   ·rw [h2,if_pos rfl]
    refine (mup_go hm j m.li.toNat x hx m rest e e' (lnG S.X m.li.toNat) (lnG_len _ _) (tellL o a) 0 hT hu (by omega) hi he hX h2 (tellL_to h4 h3.1) 980 (hQ.dnB hI) (by have:=tellL_len o a;omega)).mono fun r w' hr=>?_
    rcases hr with ⟨q1,_⟩|⟨_,q2,q3⟩
    ·exact absurd rfl q1
    ·exact ⟨q2,q3⟩
theorem uanswer (hn:n≤1000000000) (hQ:Roomy c S) (hT:Tab W) (k:Int):
 Calls Tryz.prog 23 #[.pointer (some ⟨sy,0,none⟩),.int .i64 k] w fun e w'=>e=.returned (.int .i64 (answerM c S k).2.e)∧MTS W w c sy F (answerM c S k).1 w':=by
 unfold answerM
 cases hp:portAt c S k with
 |none=>exact (manswer_no hm k (hI.portNone hp)).mono fun e w' h=>⟨h.1,MS.sameU hm (h.2▸Chg.refl [] w)⟩
 |some x=>
  obtain ⟨j,rfl,hj,hx,hat,hP,_⟩:=hI.port hp
  have hQj:=hQ j hj
  rw [hat] at hQj
  have hus:x.s.2≤1000000000:=by have:=hP.us;omega
  have hq:x.up.length<1000:=by have:=hQj.1;omega
  have h64:=hI.ok.li64
  dsimp only
  cases hu:x.an with
  |nil=>
   refine (manswer_none hm j x hx hu).mono fun e w' h=>⟨h.1,?_⟩
   have e1:S.ps.set j {x with an:=[]}=S.ps:=by
    have:({x with an:=[]}:Pt)=x:=by rw [←hu]
    rw [this]
    obtain ⟨h1,h2⟩:=List.getElem?_eq_some_iff.1 hx
    rw [←h2];exact List.set_getElem_self h1
   have h2:=h.2
   rw [e1] at h2
   exact h2
  |cons m rest=>
   obtain ⟨i,e,hi,hic,he,o,a,e',h2,h3,h4,_⟩:=hI.answer hj hx hu
   have ei:i=m.li.toNat:=by omega
   subst ei
   dsimp only
   rw [he]
   dsimp only
   rw [h2,if_pos rfl]
   refine (manswer_go hm j m.li.toNat x hx m rest e e' (tellL o a) 0 hT hu (by have:=hQj.2.1;omega) hi he h2 (tellL_to h4 h3.1) 980 (hQ.dnB hI) (by have:=tellL_len o a;omega)).mono fun r w' hr=>?_
   rcases hr with ⟨q1,_⟩|⟨_,q2,q3⟩
   ·exact absurd rfl q1
   ·exact ⟨q2,q3⟩
theorem uhear (hn:n≤1000000000) (hQ:Roomy c S) (hT:Tabs W) (k:Int):
 Calls Tryz.prog 20 #[.pointer (some ⟨sy,0,none⟩),.int .i64 k] w fun e w'=>e=.returned (.tuple #[.agg (msc (hearM c S k).2.m),.int .i64 (hearM c S k).2.e])∧MTS W w c sy F (hearM c S k).1 w':=by
 unfold hearM
 cases hp:portAt c S k with
 |none=>exact (mhear_no hm k (hI.portNone hp)).mono fun e w' h=>⟨h.1,MS.sameU hm h.2⟩
 |some x=>
  obtain ⟨j,rfl,hj,hx,hat,hP,_⟩:=hI.port hp
  have hQj:=hQ j hj
  rw [hat] at hQj
  have hus:x.s.2≤1000000000:=by have:=hP.us;omega
  have hq:x.up.length<1000:=by have:=hQj.1;omega
  have h64:=hI.ok.li64
  dsimp only
  cases hu:x.dn with
  |nil=>
   refine (mhear_none hm j x hx hu).mono fun e w' h=>⟨h.1,?_⟩
   have e1:S.ps.set j {x with dn:=[]}=S.ps:=by
    have:({x with dn:=[]}:Pt)=x:=by rw [←hu]
    rw [this]
    obtain ⟨h1,h2⟩:=List.getElem?_eq_some_iff.1 hx
    rw [←h2];exact List.set_getElem_self h1
   have h2:=h.2
   rw [e1] at h2
   exact h2
  |cons m rest=>
   obtain ⟨_,h2,h3,h4,_⟩:=hI.hear hj hx hu
   dsimp only
   rw [if_pos h2]
   refine (mhear_go hm j x hx m rest (hearF c.se c.wa x.s m).1 (hearF c.se c.wa x.s m).2.1 0 hT hu (by have:=hQj.2.2;omega) hus (by rw [←h2]) h3 (by have:=hQj.2.1;omega) h4).mono fun r w' hr=>?_
   rcases hr with ⟨q1,_⟩|⟨_,q2,q3⟩
   ·exact absurd rfl q1
   ·exact ⟨q2,q3⟩
theorem upush (hn:n≤1000000000) (hQ:Roomy c S) (hT:Tab W) (li:Int):
 Calls Tryz.prog 24 #[.pointer (some ⟨sy,0,none⟩),.int .i64 li] w fun e w'=>e=.returned (.int .i64 (pushM c S li).2.e)∧MTS W w c sy F (pushM c S li).1 w':=by
 unfold pushM
 by_cases hl:inB li c.li=true
 ·rw [if_pos hl]
  obtain ⟨l0,ln⟩:=inB_iff.1 hl
  obtain ⟨i,rfl⟩:∃i:Nat,li=(i:Int):=⟨li.toNat,by omega⟩
  rw [Int.toNat_natCast]
  have hic:i<c.li:=by omega
  obtain ⟨e,he,_⟩:=hI.entry hic
  rw [he]
  dsimp only
  by_cases hr:readyE e=true
  ·rw [if_pos hr]
   obtain ⟨p1,p2,p3,_⟩:=hI.push hic he hr
   have hg:=mpush_go hm i e hT he hr p1 p2 p3 (saveV c S.es i e) rfl (saveEs c S.es i e) rfl 980 (hQ.dnB hI) (by omega)
   by_cases hv:saveV c S.es i e=0
   ·rw [if_pos hv]
    refine hg.mono fun r w' h=>?_
    rcases h with ⟨q1,_⟩|⟨_,q2,q3⟩
    ·exact absurd hv q1
    ·refine ⟨q2,?_⟩
     rw [←tell_one p1] at q3
     exact q3
   ·rw [if_neg hv]
    refine hg.mono fun r w' h=>?_
    rcases h with ⟨_,q2,q3⟩|⟨q1,_⟩
    ·exact ⟨q2,q3⟩
    ·exact absurd q1 hv
  ·rw [if_neg hr]
   exact (mpush_wait hm i e hT he (by simpa using hr)).mono fun e w' h=>⟨h.1,MS.sameU hm h.2⟩
 ·rw [if_neg hl]
  exact (mpush_off hm li (by simpa using hl)).mono fun e w' h=>⟨h.1,MS.sameU hm (h.2▸Chg.refl [] w)⟩
theorem udrain (hn:n≤1000000000) (hQ:Roomy c S) (hT:Tab W) (li:Int):
 Calls Tryz.prog 66 #[.pointer (some ⟨sy,0,none⟩),.int .i64 li] w fun e w'=>e=.returned (.int .i64 (drainM c S li).2.e)∧MTS W w c sy F (drainM c S li).1 w':=by
 unfold drainM
 have _hI:=hI
 by_cases hl:inB li c.li=true
 ·rw [if_pos hl]
  exact mdrain_ok hm li hl
 ·rw [if_neg hl]
  exact (mdrain_off hm li (by simpa using hl)).mono fun e w' h=>⟨h.1,MS.sameU hm (h.2▸Chg.refl [] w)⟩
end
end
section
theorem wideEv:Wide Tryz.prog 45 5:=⟨⟨_,Tryz.underlying45,by rfl⟩,by kernel_rfl⟩
theorem loadEv (x:Value):Instr.loadAt 45 x=loadS 45 5 x:=rfl
theorem storeEv (x y:Value):Instr.storeAt 45 x y=storeS 45 5 x y:=rfl
theorem wideRg:Wide Tryz.prog 47 8:=⟨⟨_,Tryz.underlying47,by rfl⟩,by kernel_rfl⟩
theorem loadRg (x:Value):Instr.loadAt 47 x=loadS 47 8 x:=rfl
theorem storeRg (x y:Value):Instr.storeAt 47 x y=storeS 47 8 x y:=rfl
set_option maxRecDepth 100000
attribute [local go_sem ↓] append_appS copy_copS clear_clrS make_mkS cell_row frozen_row heap_drew heap_drewN heap_alloc heap_past heap_setCell heap_putRow loadSe storeSe loadIns storeIns loadEv storeEv loadRg storeRg sec_kd sec_li sec_wo sec_va sec_sn insc_op insc_a insc_b insc_c insc_im evc_kd evc_co evc_li evc_wo evc_va coc_id coc_ru coc_reg coc_pr coc_pc coc_qb coc_wt
attribute [local go_sem] rowCell_some rowFrozen_some rowHas_some rowIn_some rowPart_full rowPut_full rowSet_some run_loadS run_storeS run_appS run_copS run_clrS run_mkS loadW_at storeW_at fit_all fit_le one_int one_bool one_pointer one_slice allOne_list putRow_new ne_size1 ne_size2 wideSe wideIns wideEv wideRg sec_size sec_one sec_lit sec_z sec_ne sec_set0 sec_set1 sec_set2 sec_set3 seZ_kd seZ_li seZ_wo seZ_va seZ_sn insc_size insc_one insc_ne insc_lit insc_z evc_size evc_one evc_ne evc_lit evc_z evc_set0 evc_set1 evc_set2 evc_set3 evc_set4 evZ_kd evZ_co evZ_li evZ_wo evZ_va fold_evc coc_setRu coc_size coc_setPc coc_setWt coc_setReg coc_regs vs_size vs_one
attribute [local simp ↓] heap_drew heap_drewN heap_alloc heap_past heap_setCell heap_putRow
attribute [local simp] rowCell_some rowFrozen_some rowHas_some rowIn_some rowPart_full rowPut_full rowSet_some fit_all putRow_new ne_size1 ne_size2 sec_size insc_size evc_size coc_size coc_setRu coc_setPc coc_setWt coc_setReg vs_size fit_le
def CoAt (w:World) (kb:Nat) (id:Int) (ru:Bool) (rg:List Int) (pb np:Nat) (pc:Int) (qb:Nat) (wt:Int):Prop:=w.heap[kb]? =some (.cells (coc id ru rg pb np pc qb wt) 98 (0,0))
theorem results_ev {fn:Func} {p:Tmp} (h:fn.results=#[.cell p 45]) (tmps:Array Value) (w:World) (q:Nat) (x:Ev) (fr:Nat×Nat)
 (hp:tmps.getD p undef=.pointer (some ⟨q,0,none⟩)) (hb:w.heap[q]? =some (.cells (evc x) 45 fr)):(results fn tmps).run Tryz.prog w=.ok (.agg (evc x)) w:=by
 have hp':tmps[p]?.getD undef=.pointer (some ⟨q,0,none⟩):=by simpa using hp
 have:=run_loadVar_row (P:=Tryz.prog) w q 45 45 (evc x) fr _ hb Tryz.underlying45 rfl (by rw [evc_size];kernel_rfl)
 simp [results,h,hp',asAddr,this]
theorem results_rg {rg:List Int} (h8:rg.length=8) {fn:Func} {p:Tmp} (h:fn.results=#[.cell p 47]) (tmps:Array Value) (w:World) (q:Nat) (fr:Nat×Nat)
 (hp:tmps.getD p undef=.pointer (some ⟨q,0,none⟩)) (hq:w.heap[q]? =some (.cells (vs rg) 47 fr)):(results fn tmps).run Tryz.prog w=.ok (.agg (vs rg)) w:=by
 have hp':tmps[p]?.getD undef=.pointer (some ⟨q,0,none⟩):=by simpa using hp
 have:=run_loadVar_row (P:=Tryz.prog) w q 47 47 (vs rg) fr _ hq Tryz.underlying47 rfl (by rw [vs_size,h8];kernel_rfl)
 simp [results,h,hp',asAddr,this]
section
variable {w:World} {kb:Nat} {id:Int} {ru:Bool} {rg:List Int} {pb np:Nat} {pc:Int} {qb:Nat} {wt:Int} (h8:rg.length=8) (hb:w.heap[kb]? =some (.cells (coc id ru rg pb np pc qb wt) 98 (0,0)))
include hb
theorem cevent (kd li wo va:Int):Calls Tryz.prog 46 #[.pointer (some ⟨kb,0,none⟩),.int .i64 kd,.int .i64 li,.int .i64 wo,.int .u64 va] w fun e w'=>e=.returned (.agg (evc ⟨kd,id,li,wo,va⟩))∧Chg [] w w':=by
 have ob:=old hb
 go_enter Tryz.func46,Tryz.ntmps46
 go_wp2_with fail
 refine bodyPost_ret (v:=.agg (evc ⟨kd,id,li,wo,va⟩)) (results_ev (by rfl) _ _ w.heap.size _ (0,0) (by rfl) (by simp;try rfl)) (by rfl) ⟨rfl,(Chg.refl [] w).alloc _⟩
theorem cruns:Calls Tryz.prog 15 #[.pointer (some ⟨kb,0,none⟩)] w fun e w'=>e=.returned (.bool ru)∧w=w':=by
 go_enter Tryz.func15,Tryz.ntmps15
 go_wp2_with fail
 go_ret
 exact ⟨rfl,rfl⟩
include h8
theorem cnext (v:Value) (h1: -9223372036854775808≤pc+1) (h2:pc+1≤9223372036854775807):Calls Tryz.prog 45 #[.pointer (some ⟨kb,0,none⟩),v] w fun e w'=>e=.returned v∧Chg [kb] w w'∧CoAt w' kb id ru rg pb np (pc+1) qb wt:=by
 have ob:=old hb
 go_enter Tryz.func45,Tryz.ntmps45
 go_wp2_with fail
 go_ret
 refine ⟨rfl,(Chg.refl [kb] w).setCell kb _ _ (.inl (by simp)),?_⟩
 unfold CoAt
 rw [heap_setCell,if_pos rfl,hb,rowSet_some,coc_setPc h8]
theorem cwaits:Calls Tryz.prog 22 #[.pointer (some ⟨kb,0,none⟩)] w fun e w'=>e=.returned (.int .i64 wt)∧w=w':=by
 go_enter Tryz.func22,Tryz.ntmps22
 go_wp2_with fail
 go_ret
 exact ⟨rfl,rfl⟩
theorem cend (kd:Int):Calls Tryz.prog 42 #[.pointer (some ⟨kb,0,none⟩),.int .i64 kd] w fun e w'=>∃be,e=.returned (.slice (some ⟨be,0,none⟩) 1 1)∧Chg [kb] w w'∧CoAt w' kb id false rg pb np pc qb wt∧w'.heap[be]? =some (.cells (evc ⟨kd,id,0,0,0⟩) 45 (0,0))∧w.heap.size≤be:=by
 have _:=h8
 have ob:=old hb
 have hb1:(w.setCell ⟨kb,1,none⟩ (.bool false)).heap[kb]? =some (.cells (coc id false rg pb np pc qb wt) 98 (0,0)):=by
  rw [heap_setCell,if_pos rfl,hb,rowSet_some,coc_setRu]
 have hs:(w.setCell ⟨kb,1,none⟩ (.bool false)).heap.size=w.heap.size:=by simp
 have HC:=Lib.hid ((Chg.refl [kb] w).setCell kb 1 (.bool false) (.inl (by simp)))
 go_enter Tryz.func42,Tryz.ntmps42
 go_wp2_with fail
 generalize hw:w.setCell ⟨kb,1,none⟩ (.bool false)=w1 at hb1 hs HC ⊢
 refine (cevent hb1 kd 0 0 0).mono ?_
 rintro e w2 ⟨rfl,c2⟩
 have hb2:=c2.keep hb1 (by simp)
 have HC2:=Lib.hid (HC.out.trans (c2.mono (by simp)))
 have ob2:=old hb2
 clear hw hb1 HC
 go_wp2_with fail
 go_ret
 refine ⟨w2.heap.size,rfl,HC2.out.alloc _,?_,by simp,?_⟩
 ·unfold CoAt
  rw [heap_alloc,hb2];rfl
 ·have:=c2.size
  omega
theorem cregs:Calls Tryz.prog 26 #[.pointer (some ⟨kb,0,none⟩)] w fun e w'=>e=.returned (.agg (vs rg))∧Chg [] w w':=by
 have ob:=old hb
 go_enter Tryz.func26,Tryz.ntmps26
 go_wp2_with fail
 refine bodyPost_ret (v:=.agg (vs rg)) ?_ (by rfl) ?_
 ·exact results_rg h8 (by rfl) _ _ w.heap.size (0,0) (by rfl) (by simp)
 ·exact ⟨rfl,(Chg.refl [] w).alloc _⟩
end
section
variable {w:World} {kb:Nat} {id:Int} {ru:Bool} {rg:List Int} {pb np:Nat} {pc:Int} {qb:Nat} {wt:Int} (hb:w.heap[kb]? =some (.cells (coc id ru rg pb np pc qb wt) 98 (0,0)))
include hb
end
end
section
section
variable {c:Cg} {n:Nat} {S:Mst} {cur:Nat→List Int} (h:Inv c n S cur)
include h
theorem Inv.reads {j:Nat} (hj:j<c.co) {li:Int} (hs:(vw (atP S.ps j).s li).1=1∨(vw (atP S.ps j).s li).1=2∨(vw (atP S.ps j).s li).1=3∨(vw (atP S.ps j).s li).1=6):
 ∃(i:Nat) (e:En),li=(i:Int)∧i<c.li∧S.en[i]? =some e∧(vw (atP S.ps j).s li).2=cur i∧(e.ow=(j:Int)∨hasM e.sh j=true)∧(((vw (atP S.ps j).s li).1=2∨(vw (atP S.ps j).s li).1=3)→e.ow=(j:Int))∧∀p:Nat,e.ow=(p:Int)→e.sh=0#8:=by
 have hp:=h.pt j hj
 obtain ⟨l0,l1,_,_⟩:=hp.aj.line (li:=li) (by omega)
 obtain ⟨i,rfl⟩:∃i:Nat,li=(i:Int):=⟨li.toNat,by omega⟩
 obtain ⟨e,he,hl⟩:=h.entry (i:=i) (by omega)
 have hr:=hl.rel j hj
 have hst:vst (atP S.ps j) i=1∨vst (atP S.ps j) i=2∨vst (atP S.ps j) i=3∨vst (atP S.ps j) i=6:=by unfold vst;omega
 obtain ⟨a,b,d⟩:=hr.reads hst
 refine ⟨i,e,rfl,by omega,he,a,?_,fun h2=>?_,fun p hp=>(LI.ow_ne hl hp).2.1⟩
 ·rcases b with b|b
  ·exact .inl (by simpa using b)
  ·exact .inr b
 ·have:=d (by unfold vst;omega)
  simpa using this
theorem Inv.loadHit (k li wd:Int) (hh:(Go.Proofs.YtcjoinhngdfdmaaGreatDoor.loadM c S k li wd).2.hit=true):inB k c.co=true∧inB li c.li=true∧isWd wd=true∧(Go.Proofs.YtcjoinhngdfdmaaGreatDoor.loadM c S k li wd).2.v=(cur li.toNat).getD wd.toNat 0:=by
 unfold Go.Proofs.YtcjoinhngdfdmaaGreatDoor.loadM at hh ⊢
 cases hp:portAt c S k with
 |none=>rw [hp] at hh;exact absurd (show false=true from hh) (by decide)
 |some x=>
  rw [hp] at hh
  obtain ⟨j,rfl,hj,hx,hat,hP,hb⟩:=h.port hp
  dsimp only at hh ⊢
  by_cases hl:inB li c.li=true
  ·rw [if_pos hl] at hh ⊢
   obtain ⟨_,_,hv⟩:=hP.aj.loadF (inB_iff.1 hl).2 wd
   obtain ⟨m1,m2,m3,m4⟩:=hv hh
   have hst:(vw (atP S.ps j).s li).1=1∨(vw (atP S.ps j).s li).1=2∨(vw (atP S.ps j).s li).1=3∨(vw (atP S.ps j).s li).1=6:=by
    rw [hat]
    unfold mayR at m1
    rw [Bool.or_eq_true,rest_iff,beq_iff_eq] at m1
    omega
   obtain ⟨i,e,rfl,_,_,q,_⟩:=h.reads hj hst
   rw [hat] at q
   refine ⟨hb,hl,m2,?_⟩
   rw [Int.toNat_natCast,←q]
   exact m4
  ·rw [if_neg hl] at hh
   exact absurd (show false=true from hh) (by decide)
end
end
section
def NN (cur:Nat→List Int):Prop:=∀i,∀x∈cur i,0≤x
structure PosC (Q:Co):Prop where
 rg:∀x∈Q.rg,0≤x
 es:∀e∈Q.es,0≤e.va
theorem u64_pos (x:Int):0≤IntKind.u64.wrap x:=by
 have:IntKind.u64.wrap x=x % 18446744073709551616:=by simp [IntKind.wrap,IntKind.bits,IntKind.signed]
 omega
theorem and_pos (x y:Int):0≤bits .and .u64 x y:=u64_pos _
theorem xor_pos (x y:Int):0≤bits .xor .u64 x y:=u64_pos _
theorem doV_pos (op:Int) {b c:Int} (hb:0≤b):0≤doV op b c:=by
 unfold doV
 split
 ·exact u64_pos _
 split
 ·exact u64_pos _
 split
 ·exact and_pos _ _
 split
 ·exact xor_pos _ _
 split
 ·exact u64_pos _
 split
 ·exact Int.ediv_nonneg hb (Int.pow_nonneg (by omega))
 ·omega
theorem getD_pos {l:List Int} (h:∀x∈l,0≤x) (i:Nat):0≤l.getD i 0:=by
 rw [List.getD_eq_getElem?_getD]
 cases e:l[i]? with
 |none=>simp
 |some x=>exact h x (List.mem_of_getElem? e)
theorem PosC.reg {Q:Co} (h:PosC Q) (r:Int):0≤regA Q r:=getD_pos h.rg _
theorem PosC.setR {Q:Co} (h:PosC Q) (r:Int) {v:Int} (hv:0≤v):PosC (setR Q r v):=by
 refine ⟨fun x hx=>?_,h.es⟩
 rcases List.mem_or_eq_of_mem_set hx with h1|rfl
 ·exact h.rg x h1
 ·exact hv
theorem PosC.next {Q:Co} (h:PosC Q):PosC (nextC Q):=⟨h.rg,h.es⟩
theorem PosC.stop {Q:Co} (h:PosC Q):PosC (stopC Q):=⟨h.rg,h.es⟩
theorem PosC.read {Q:Co} (h:PosC Q) (u:Int):PosC (readC Q u):=⟨h.rg,h.es⟩
theorem fdO_mem {es:List Se} {li wo:Int} {e:Se} (h:fdO es li wo=some e):e∈es:=by
 unfold fdO at h
 have:=List.mem_of_find?_eq_some h
 simpa using this
theorem loadF_miss {N M:Nat} {s:Sta} {li k:Int} (h:(loadF N M s li k).2.2.1=false):0≤(loadF N M s li k).2.1:=by
 unfold loadF at h ⊢
 split
 ·rename_i h1
  rw [if_pos h1] at h
  split
  ·rename_i h2
   rw [if_pos h2] at h
   cases h
  ·split<;>exact Int.le_refl _
 ·exact Int.le_refl _
structure Went (c:Cg) (n:Nat) (D:Did13) (Q:Co) (cur':Nat→List Int):Prop where
 inv:Inv c n D.S cur'
 nn:NN cur'
 pos:PosC D.Q
 id:D.Q.id=Q.id
 rm:D.Q.rm=Q.rm
 wt:D.Q.wt=Q.wt
 es:D.Q.es.length≤max Q.es.length Q.rm
 calm:∀e∈D.ev,e.kd=7∨e.kd=4→Q.es=[]∧Q.wt=0
section
variable {c:Cg} {n:Nat} {S:Mst} {cur:Nat→List Int} (h:Inv c n S cur) (hN:NN cur)
include h hN
theorem NN.load {k li wd:Int} (hh:(loadM c S k li wd).2.hit=true):0≤(loadM c S k li wd).2.v:=by
 rw [(h.loadHit k li wd hh).2.2.2]
 exact getD_pos (hN _) _
theorem loadV_pos (k li wo:Int):0≤(loadM c S k li wo).2.v:=by
 cases hh:(loadM c S k li wo).2.hit
 ·unfold loadM at hh ⊢
  cases hp:portAt c S k with
  |none=>exact Int.le_refl _
  |some x=>
   rw [hp] at hh
   dsimp only at hh ⊢
   split
   ·rename_i h1
    rw [if_pos h1] at hh
    exact loadF_miss hh
   ·exact Int.le_refl _
 ·exact NN.load h hN hh
theorem NN.store {k li wd v:Int} (hv:0≤v):∃cur',Inv c (n+1) (storeM c S k li wd v).1 cur'∧NN cur':=by
 refine ⟨_,(h.storeM k li wd v).1,?_⟩
 split
 ·intro i x hx
  dsimp only at hx
  split at hx
  ·rcases List.mem_or_eq_of_mem_set hx with h1|rfl
   ·exact hN i x h1
   ·exact hv
  ·exact hN i x hx
 ·exact hN
variable {Q:Co} (hQ:PosC Q)
include hQ
theorem went_stay {Q':Co} {l:List Ev} (m:Nat) (hp:PosC Q') (h1:Q'.id=Q.id) (h2:Q'.rm=Q.rm) (h3:Q'.wt=Q.wt) (h4:Q'.es=Q.es) (hl:∀e∈l,e.kd=7∨e.kd=4→Q.es=[]∧Q.wt=0):Went c (n+m) ⟨S,Q',l⟩ Q cur:=
 have _:=hQ
 ⟨h.mono (by omega),hN,hp,h1,h2,h3,by rw [h4];omega,hl⟩
theorem went_load (a li wo:Int):∃cur',Went c (n+2) (loadC c S Q a li wo) Q cur':=by
 unfold loadC
 split
 ·rename_i e he
  exact ⟨cur,went_stay h hN hQ 2 (hQ.setR a (hQ.es e (fdO_mem he))).next rfl rfl rfl rfl (by intro e he hk;simp only [List.mem_singleton] at he;subst he;rcases hk with hk|hk<;>cases hk)⟩
 ·split
  ·rename_i hh
   exact ⟨cur,(h.loadM _ _ _).mono (by omega),hN,(hQ.setR a (NN.load h hN hh)).next,rfl,rfl,rfl,Nat.le_max_left _ _,by intro e he hk;simp only [List.mem_singleton] at he;subst he;rcases hk with hk|hk<;>cases hk⟩
  ·exact ⟨cur,(h.loadM _ _ _).mono (by omega),hN,hQ,rfl,rfl,rfl,Nat.le_max_left _ _,by intro e he;cases he⟩
theorem went_put (kd:Int) (e:Se) (hk:kd≠7∧kd≠4) (he:0≤e.va):Went c (n+2) (putC S Q kd e) Q cur:=by
 unfold putC
 split
 ·rename_i h0
  refine ⟨h.mono (by omega),hN,⟨hQ.rg,?_⟩,rfl,rfl,rfl,?_,?_⟩
  ·show ∀x∈sbE Q.rm Q.es e,0≤x.va
   intro x hx
   unfold sbE at hx
   split at hx
   ·split at hx
    ·exact hQ.es x hx
    ·rcases List.mem_append.1 hx with h1|h1
     ·exact hQ.es x h1
     ·simp only [List.mem_singleton] at h1;subst h1;exact he
   ·exact hQ.es x hx
  ·show (sbE Q.rm Q.es e).length≤_
   unfold sbE
   split
   ·split
    ·omega
    ·rw [List.length_append,List.length_singleton];omega
   ·omega
  ·intro x hx hk2
   simp only [List.mem_singleton] at hx
   subst hx
   rcases hk2 with h2|h2
   ·exact absurd h2 hk.1
   ·exact absurd h2 hk.2
 ·exact went_stay h hN hQ 2 hQ rfl rfl rfl rfl (by intro e he;cases he)
theorem settled_iff:settledB Q=true↔Q.es=[]∧Q.wt=0:=by
 have _:=h
 have _:=hN
 have _:=hQ
 unfold settledB
 simp
theorem reach_hit {k li:Int} (hh:(reachM c S k li).2.hit=true):(reachM c S k li).1=S:=by
 have _:=h
 have _:=hN
 have _:=hQ
 unfold reachM at hh ⊢
 cases hp:portAt c S k with
 |none=>rfl
 |some x=>
  rw [hp] at hh
  dsimp only at hh ⊢
  split
  ·split
   ·rfl
   ·rename_i h1 h2
    rw [if_pos h1,if_neg h2] at hh
    cases hh
  ·rfl
theorem chgV_pos (i:Ins) {old:Int}:0≤chgV Q i old:=by
 have _:=h
 have _:=hN
 unfold chgV
 split
 ·exact hQ.reg _
 ·exact u64_pos _
theorem went_change (i:Ins) (li wo:Int):∃cur',Went c (n+2) (changeC c S Q i li wo) Q cur':=by
 unfold changeC
 split
 ·rename_i h0
  have hs:=(settled_iff h hN hQ).1 h0
  split
  ·rename_i hr
   rw [reach_hit h hN hQ hr]
   have hl:=h.loadM Q.id li wo
   have hv:0≤(loadM c S Q.id li wo).2.v:=loadV_pos h hN _ _ _
   split
   ·obtain ⟨cur',h1,h2⟩:=NN.store hl hN (k:=Q.id) (li:=li) (wd:=wo) (v:=chgV Q i (loadM c S Q.id li wo).2.v) (chgV_pos h hN hQ i)
    exact ⟨cur',h1,h2,(hQ.setR _ hv).next,rfl,rfl,rfl,Nat.le_max_left _ _,fun _ _ _=>hs⟩
   ·exact ⟨cur,hl.next,hN,(hQ.setR _ hv).next,rfl,rfl,rfl,Nat.le_max_left _ _,fun _ _ _=>hs⟩
  ·exact ⟨cur,(h.reachM _ _).next,hN,hQ,rfl,rfl,rfl,Nat.le_max_left _ _,by intro e he;cases he⟩
 ·exact ⟨cur,went_stay h hN hQ 2 hQ rfl rfl rfl rfl (by intro e he;cases he)⟩
theorem ev_not {k li wo va:Int} (hk:k≠7∧k≠4):∀e∈[evC Q k li wo va],e.kd=7∨e.kd=4→Q.es=[]∧Q.wt=0:=by
 intro e he h2
 have _:=h
 have _:=hN
 have _:=hQ
 simp only [List.mem_singleton] at he
 subst he
 rcases h2 with h2|h2
 ·exact absurd h2 hk.1
 ·exact absurd h2 hk.2
theorem went_access (i:Ins):∃cur',Went c (n+2) (accessC c S Q i) Q cur':=by
 unfold accessC
 split
 ·split
  ·exact went_load h hN hQ _ _ _
  split
  ·exact ⟨cur,went_put h hN hQ 12 _ (by decide) (hQ.reg _)⟩
  split
  ·exact went_change h hN hQ _ _ _
  ·exact ⟨cur,went_put h hN hQ 14 _ (by decide) (Int.le_refl _)⟩
 ·exact ⟨cur,went_stay h hN hQ 2 hQ.stop rfl rfl rfl rfl (ev_not h hN hQ (by decide))⟩
theorem went_ins (i:Ins):∃cur',Went c (n+2) (insC c S Q i) Q cur':=by
 have nil:∀e∈([]:List Ev),e.kd=7∨e.kd=4→Q.es=[]∧Q.wt=0:=by intro e he;cases he
 unfold insC
 split
 ·exact ⟨cur,went_stay h hN hQ 2 hQ.next rfl rfl rfl rfl nil⟩
 split
 ·exact ⟨cur,went_stay h hN hQ 2 (hQ.setR _ (u64_pos _)).next rfl rfl rfl rfl nil⟩
 split
 ·exact ⟨cur,went_stay h hN hQ 2 (hQ.setR _ (doV_pos _ (hQ.reg _))).next rfl rfl rfl rfl nil⟩
 split
 ·split
  ·exact ⟨cur,went_stay h hN hQ 2 ⟨hQ.rg,hQ.es⟩ rfl rfl rfl rfl nil⟩
  ·exact ⟨cur,went_stay h hN hQ 2 hQ.next rfl rfl rfl rfl nil⟩
 split
 ·exact ⟨cur,went_stay h hN hQ 2 hQ.next rfl rfl rfl rfl (ev_not h hN hQ (by decide))⟩
 split
 ·exact ⟨cur,went_stay h hN hQ 2 hQ.stop rfl rfl rfl rfl (ev_not h hN hQ (by decide))⟩
 split
 ·split
  ·rename_i h0
   exact ⟨cur,went_stay h hN hQ 2 hQ.next rfl rfl rfl rfl (fun _ _ _=>(settled_iff h hN hQ).1 h0)⟩
  ·exact ⟨cur,went_stay h hN hQ 2 hQ rfl rfl rfl rfl nil⟩
 ·exact went_access h hN hQ i
theorem went_exec:∃cur',Went c (n+2) (execC c S Q) Q cur':=by
 unfold execC
 split
 ·split
  ·exact ⟨cur,went_stay h hN hQ 2 hQ.stop rfl rfl rfl rfl (ev_not h hN hQ (by decide))⟩
  ·rename_i u b he
   split
   ·obtain ⟨cur',w⟩:=went_ins h hN (hQ.read u) (insOf u)
    exact ⟨cur',w.inv,w.nn,w.pos,w.id,w.rm,w.wt,w.es,w.calm⟩
   ·exact ⟨cur,went_stay h hN hQ 2 (hQ.read u).stop rfl rfl rfl rfl (ev_not h hN hQ (by decide))⟩
 ·exact ⟨cur,went_stay h hN hQ 2 hQ rfl rfl rfl rfl (by intro e he;cases he)⟩
end
structure Left13 (c:Cg) (n:Nat) (D:Did13) (Q:Co) (cur':Nat→List Int):Prop where
 inv:Inv c n D.S cur'
 nn:NN cur'
 pos:PosC D.Q
 id:D.Q.id=Q.id
 rm:D.Q.rm=Q.rm
 wt:D.Q.wt≤max Q.wt 16
 es:D.Q.es.length≤Q.es.length
theorem left_drain {c:Cg} {n:Nat} {S:Mst} {cur:Nat→List Int} (h:Inv c n S cur) (hN:NN cur) {Q:Co} (hQ:PosC Q):∃cur',Left13 c (n+1) (drainC c S Q) Q cur':=by
 unfold drainC
 split
 ·exact ⟨cur,h.next,hN,hQ,rfl,rfl,Nat.le_max_left _ _,Nat.le_refl _⟩
 ·rename_i e rest he
  have hp:PosC {Q with es:=rest}:=⟨hQ.rg,fun x hx=>hQ.es x (by rw [he];exact List.mem_cons_of_mem _ hx)⟩
  have hv:0≤e.va:=hQ.es e (by rw [he];exact List.mem_cons_self)
  have hl:rest.length≤Q.es.length:=by rw [he,List.length_cons];omega
  split
  ·obtain ⟨cur',h1,h2⟩:=NN.store h hN (k:=Q.id) (li:=e.li) (wd:=e.wo) hv
   split
   ·exact ⟨cur',h1,h2,hp,rfl,rfl,Nat.le_max_left _ _,hl⟩
   ·exact ⟨cur',h1,h2,hQ,rfl,rfl,Nat.le_max_left _ _,Nat.le_refl _⟩
  split
  ·split
   ·exact ⟨cur,h.next,hN,hp,rfl,rfl,Nat.le_max_left _ _,hl⟩
   ·exact ⟨cur,h.next,hN,hQ,rfl,rfl,Nat.le_max_left _ _,Nat.le_refl _⟩
  split
  ·exact ⟨cur,h.next,hN,hQ,rfl,rfl,Nat.le_max_left _ _,Nat.le_refl _⟩
  have hf:=h.flushM Q.id e.li (askedK e.kd)
  split
  ·refine ⟨cur,hf,hN,⟨hQ.rg,?_⟩,rfl,rfl,?_,?_⟩
   ·show ∀x∈(if e.kd=14 then sent e::rest else rest),0≤x.va
    intro x hx
    split at hx
    ·rcases List.mem_cons.1 hx with rfl|hx
     ·exact hv
     ·exact hp.es x hx
    ·exact hp.es x hx
   ·show Q.wt+1≤_
    omega
   ·show (if e.kd=14 then sent e::rest else rest).length≤_
    split
    ·rw [he];exact Nat.le_refl _
    ·exact hl
  ·exact ⟨cur,hf,hN,hQ,rfl,rfl,Nat.le_max_left _ _,Nat.le_refl _⟩
end
end Go.Proofs.YtcjoinhngdfdmaaGreatDoor
