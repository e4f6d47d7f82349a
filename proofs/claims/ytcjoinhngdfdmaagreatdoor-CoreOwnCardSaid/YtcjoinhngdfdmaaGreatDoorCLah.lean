/- Texts of the walk, one behind the other: Dir Dirb Dirc Dird. No condition. -/
import Derived.Test.YtcjoinhngdfdmaaGreatDoorCLag
import Derived.BigQuiet
import Derived.ChangeKeysEq
import Derived.Deep.QuietTactic
import Derived.Deep.RegionHeld3
import Derived.Deep.RegionWith
import Derived.Laws.StructEq
namespace Go.Proofs.YtcjoinhngdfdmaaGreatDoor
open Go.RowKit
set_option linter.unusedVariables false
set_option maxHeartbeats 1000000
attribute [local go_sem ↓] append_appS copy_copS clear_clrS make_mkS slice_slS cell_row frozen_row loadLine storeLine loadMsg storeMsg heap_drew heap_drewN heap_alloc heap_past heap_setCell heap_putRow msc_kd msc_li msc_di msc_ke
attribute [local go_sem] rowCell_some rowFrozen_some rowHas_some rowIn_some rowPart_full rowPut_full rowSet_some vs_size vs_one wideLine wideMsg run_loadS run_storeS run_appS run_copS run_clrS run_mkS run_slS loadW_at storeW_at fit_all fit_le one_int one_bool one_pointer one_slice allOne_list putRow_new ne_size1 ne_size2 zero8_length line_eq lit8 msc_size msc_one msc_part fold_msc
attribute [local simp ↓] heap_drew heap_drewN heap_alloc heap_past heap_setCell heap_putRow
attribute [local simp] rowCell_some rowFrozen_some rowHas_some rowIn_some rowPart_full rowPut_full rowSet_some vs_size fit_all putRow_new ne_size1 ne_size2 zero8_length msc_size
attribute [local go_sem ↓] ec_he ec_di ec_ow ec_sh ec_bu ec_by ec_wa sc_to
attribute [local go_sem] mi_and mi_or mi_not mi_beq0 mi_bne0 ec_size ec_one ec_part ec_in ec_has ec_setDi ec_setOw ec_setSh ec_setBu ec_setBy ec_setWa ec_setSh0 ec_setWa0 ec_putM sc_size sc_one sc_part
attribute [local simp] ec_size sc_size ec_setDi ec_setOw ec_setSh ec_setBu ec_setBy ec_setWa ec_setSh0 ec_setWa0 ec_putM
section
theorem wideEn:Wide Tryz.prog 129 15:=⟨⟨_,Tryz.underlying129,by rfl⟩,by kernel_rfl⟩
theorem loadEn (x:Value):Instr.loadAt 129 x=loadS 129 15 x:=rfl
theorem storeEn (x y:Value):Instr.storeAt 129 x y=storeS 129 15 x y:=rfl
theorem wideSd:Wide Tryz.prog 142 13:=⟨⟨_,Tryz.underlying142,by rfl⟩,by kernel_rfl⟩
theorem loadSd (x:Value):Instr.loadAt 142 x=loadS 142 13 x:=rfl
theorem storeSd (x y:Value):Instr.storeAt 142 x y=storeS 142 13 x y:=rfl
attribute [local go_sem ↓] loadEn storeEn loadSd storeSd
attribute [local go_sem] wideEn wideSd
theorem results_en1 {fn:Func} {p:Tmp} (h:fn.results=#[.cell p 129]) (tmps:Array Value) (w:World) (b:Nat) (x:En) (fr:Nat×Nat)
 (hp:tmps.getD p undef=.pointer (some ⟨b,0,none⟩)) (hb:w.heap[b]? =some (.cells (ec x) 129 fr)):
 (results fn tmps).run Tryz.prog w=.ok (.agg (ec x)) w:=by
 have hp':tmps[p]?.getD undef=.pointer (some ⟨b,0,none⟩):=by simpa using hp
 have:=run_loadVar_row (P:=Tryz.prog) w b 129 129 (ec x) fr _ hb Tryz.underlying129 rfl (by rw [ec_size];kernel_rfl)
 simp [results,h,hp',asAddr,this]
theorem results_en2 {fn:Func} {p t:Tmp} (h:fn.results=#[.cell p 129,.tmp t]) (tmps:Array Value) (w:World) (b:Nat) (x:En) (fr:Nat×Nat)
 (hp:tmps.getD p undef=.pointer (some ⟨b,0,none⟩)) (hb:w.heap[b]? =some (.cells (ec x) 129 fr)) (y:Value) (hy:tmps.getD t undef=y):
 (results fn tmps).run Tryz.prog w=.ok (.tuple #[.agg (ec x),y]) w:=by
 subst hy
 have hp':tmps[p]?.getD undef=.pointer (some ⟨b,0,none⟩):=by simpa using hp
 have:=run_loadVar_row (P:=Tryz.prog) w b 129 129 (ec x) fr _ hb Tryz.underlying129 rfl (by rw [ec_size];kernel_rfl)
 simp [results,h,hp',asAddr,this]
theorem results_en3 {fn:Func} {p t u:Tmp} (h:fn.results=#[.cell p 129,.tmp t,.tmp u]) (tmps:Array Value) (w:World) (b:Nat) (x:En) (fr:Nat×Nat)
 (hp:tmps.getD p undef=.pointer (some ⟨b,0,none⟩)) (hb:w.heap[b]? =some (.cells (ec x) 129 fr)) (y z:Value) (hy:tmps.getD t undef=y) (hz:tmps.getD u undef=z):
 (results fn tmps).run Tryz.prog w=.ok (.tuple #[.agg (ec x),y,z]) w:=by
 subst hy
 subst hz
 have hp':tmps[p]?.getD undef=.pointer (some ⟨b,0,none⟩):=by simpa using hp
 have:=run_loadVar_row (P:=Tryz.prog) w b 129 129 (ec x) fr _ hb Tryz.underlying129 rfl (by rw [ec_size];kernel_rfl)
 simp [results,h,hp',asAddr,this]
theorem putRow_newB (w:World) (o:Obj) (c cs:Array Value) (t:TypeId) (h:cs.size=c.size):putRow ((w.alloc o).alloc (.cells c t)) (w.heap.size+1) 0 cs=(w.alloc o).alloc (.cells cs t):=by
 have:=putRow_new (w.alloc o) c cs t h
 rwa [show (w.alloc o).heap.size=w.heap.size+1 by simp] at this
theorem putRow_newC (w:World) (o o':Obj) (c cs:Array Value) (t:TypeId) (h:cs.size=c.size):putRow (((w.alloc o).alloc o').alloc (.cells c t)) (w.heap.size+2) 0 cs=((w.alloc o).alloc o').alloc (.cells cs t):=by
 have:=putRow_newB (w.alloc o) o' c cs t h
 rwa [show (w.alloc o).heap.size=w.heap.size+1 by simp] at this
theorem gen_world1 {P:Program} {code:Code} {K:Exit→Act→World→Prop} {a:Act} {w W:World} {b1:Nat} {x1:Obj} (hc:Chg [] w W) (h1:W.heap[b1]? =some x1)
 (h:∀W',Chg [] w W'→W'.heap[b1]? =some x1→code.wp P K a W'):code.wp P K a W:=h W hc h1
theorem gen_world2 {P:Program} {code:Code} {K:Exit→Act→World→Prop} {a:Act} {w W:World} {b1 b2:Nat} {x1 x2:Obj} (hc:Chg [] w W) (h1:W.heap[b1]? =some x1) (h2:W.heap[b2]? =some x2)
 (h:∀W',Chg [] w W'→W'.heap[b1]? =some x1→W'.heap[b2]? =some x2→code.wp P K a W'):code.wp P K a W:=h W hc h1 h2
theorem gen_world3 {P:Program} {code:Code} {K:Exit→Act→World→Prop} {a:Act} {w W:World} {b1 b2 b3:Nat} {x1 x2 x3:Obj} (hc:Chg [] w W) (h1:W.heap[b1]? =some x1) (h2:W.heap[b2]? =some x2) (h3:W.heap[b3]? =some x3)
 (h:∀W',Chg [] w W'→W'.heap[b1]? =some x1→W'.heap[b2]? =some x2→W'.heap[b3]? =some x3→code.wp P K a W'):code.wp P K a W:=h W hc h1 h2 h3
theorem gen_calls1 {P:Program} {fn:FuncId} {vs:Array Value} {K:Ending→World→Prop} {w W:World} {b1:Nat} {x1:Obj} (hc:Chg [] w W) (h1:W.heap[b1]? =some x1)
 (h:∀W',Chg [] w W'→W'.heap[b1]? =some x1→Calls P fn vs W' K):Calls P fn vs W K:=h W hc h1
theorem gen_calls2 {P:Program} {fn:FuncId} {vs:Array Value} {K:Ending→World→Prop} {w W:World} {b1 b2:Nat} {x1 x2:Obj} (hc:Chg [] w W) (h1:W.heap[b1]? =some x1) (h2:W.heap[b2]? =some x2)
 (h:∀W',Chg [] w W'→W'.heap[b1]? =some x1→W'.heap[b2]? =some x2→Calls P fn vs W' K):Calls P fn vs W K:=h W hc h1 h2
theorem gen_calls3 {P:Program} {fn:FuncId} {vs:Array Value} {K:Ending→World→Prop} {w W:World} {b1 b2 b3:Nat} {x1 x2 x3:Obj} (hc:Chg [] w W) (h1:W.heap[b1]? =some x1) (h2:W.heap[b2]? =some x2) (h3:W.heap[b3]? =some x3)
 (h:∀W',Chg [] w W'→W'.heap[b1]? =some x1→W'.heap[b2]? =some x2→W'.heap[b3]? =some x3→Calls P fn vs W' K):Calls P fn vs W K:=h W hc h1 h2 h3
theorem quiet_same' {P:Program} {f:FuncId} {args:Array Value} {w:World} {n:Nat} {v:Value} (h:Calls P f args (w.drewN n) fun e w'=>e=.returned v∧w.drewN n=w'):Calls P f args (w.drewN n) fun e w''=>e=.returned v∧∃m,w''=w.drewN m:=
 h.mono fun _ _ ⟨he,hw⟩=>⟨he,n,hw.symm⟩
theorem fold_sc (C:Array Value) (s:Sd) (h:C.size=13):Array.foldl (fun cs y=>cs.setIfInBounds y.snd y.fst) C (sc s).zipIdx 0 13=sc s:=fold_all _ _ _ (sc_size s) h
attribute [local go_sem] fold_sc
theorem size11 (n:Nat):n+1+1=n+2:=rfl
attribute [local go_sem] size11
attribute [local go_sem ↓] en_z0
attribute [local simp] en_z0
attribute [local go_sem] putRow_newB putRow_newC
attribute [local simp] putRow_newB putRow_newC fit_le ec_has
theorem dcore_any (c:Int) (w:World):Calls Tryz.prog 95 #[.int .i64 c] w fun e w'=>e=.returned (.bool (isC c))∧w=w':=by
 go_enter Tryz.func95,Tryz.ntmps95
 go_wp2_with (go_at_call 116;refine (gbit_any _ _).mono ?_;rintro e w' ⟨rfl,rfl⟩)
 go_ret
 exact ⟨by rw [bit_ne0];rfl,rfl⟩
theorem dover_any (x:En) (w:World):Calls Tryz.prog 114 #[.agg (ec x)] w fun e w'=>e=.returned (.agg (ec (overE x)))∧Chg [] w w':=by
 go_enter Tryz.func114,Tryz.ntmps114
 try dsimp only [List.append]
 go_wp2
 refine bodyPost_ret (v:=.agg (ec (overE x))) ?_ (by rfl) ?_
 ·exact results_en1 (by rfl) _ _ (w.heap.size+1) (overE x) (0,0) (by rfl) (by simp;rfl)
 exact ⟨rfl,by (repeat' (first |exact Chg.refl _ _|assumption|exact Chg.refl [] _|refine Chg.drew ?_|refine Chg.drewN ?_ _|refine Chg.alloc ?_ _|refine Chg.putRow ?_ _ _ _ (.inr (by first |exact Nat.le_refl _|omega|simp))|refine Chg.setCell ?_ _ _ _ (.inr (by first |exact Nat.le_refl _|omega|simp))))⟩
theorem dwritten_any (x:En) (m:Ms) (w:World):Calls Tryz.prog 159 #[.agg (ec x),.agg (msc m)] w fun e w'=>e=.returned (.agg (ec (writtenE x m)))∧Chg [] w w':=by
 have h8:=m.h
 cases h:m.di
 ·have e1:writtenE x m=x:=by simp [writtenE,h]
  rw [e1]
  clear e1
  go_enter Tryz.func159,Tryz.ntmps159
  try dsimp only [List.append]
  go_wp2
  refine bodyPost_ret (v:=.agg (ec x)) ?_ (by rfl) ?_
  ·exact results_en1 (by rfl) _ _ (w.heap.size+2) x (0,0) (by rfl) (by simp)
  exact ⟨rfl,by (repeat' (first |exact Chg.refl _ _|assumption|exact Chg.refl [] _|refine Chg.drew ?_|refine Chg.drewN ?_ _|refine Chg.alloc ?_ _|refine Chg.putRow ?_ _ _ _ (.inr (by first |exact Nat.le_refl _|omega|simp))|refine Chg.setCell ?_ _ _ _ (.inr (by first |exact Nat.le_refl _|omega|simp))))⟩
 ·have e1:writtenE x m=(x.setL m.l m.h).setDi true:=by simp [writtenE,h]
  rw [e1]
  clear e1
  go_enter Tryz.func159,Tryz.ntmps159
  try dsimp only [List.append]
  go_wp2
  refine bodyPost_ret (v:=.agg (ec ((x.setL m.l m.h).setDi true))) ?_ (by rfl) ?_
  ·exact results_en1 (by rfl) _ _ (w.heap.size+2) _ (0,0) (by rfl) (by simp (maxDischargeDepth:=6) [h8])
  exact ⟨rfl,by (repeat' (first |exact Chg.refl _ _|assumption|exact Chg.refl [] _|refine Chg.drew ?_|refine Chg.drewN ?_ _|refine Chg.alloc ?_ _|refine Chg.putRow ?_ _ _ _ (.inr (by first |exact Nat.le_refl _|omega|simp))|refine Chg.setCell ?_ _ _ _ (.inr (by first |exact Nat.le_refl _|omega|simp))))⟩
theorem dholders_any (x:En) (w:World):Calls Tryz.prog 182 #[.agg (ec x)] w fun e w'=>e=.returned (.int .u8 (mi (holders x)))∧Chg [] w w':=by
 go_enter Tryz.func182,Tryz.ntmps182
 try dsimp only [List.append]
 go_wp2_with fail
 refine gen_world1 (w:=w) (b1:=w.heap.size) (x1:=.cells (ec (x)) 129 (0,0)) (by (repeat' (first |exact Chg.refl _ _|assumption|exact Chg.refl [] _|refine Chg.drew ?_|refine Chg.drewN ?_ _|refine Chg.alloc ?_ _|refine Chg.putRow ?_ _ _ _ (.inr (by first |exact Nat.le_refl _|omega|simp))|refine Chg.setCell ?_ _ _ _ (.inr (by first |exact Nat.le_refl _|omega|simp))))) (by simp) fun w1 C1 rE=>?_
 have oE:=old rE
 go_quiet ((go_at_call 116;exact quiet_same' (gbit_any _ _)))
 go_wp2_with fail
 go_ret
 exact ⟨rfl,by (repeat' (first |exact Chg.refl _ _|assumption|exact Chg.refl [] _|refine Chg.drew ?_|refine Chg.drewN ?_ _|refine Chg.alloc ?_ _|refine Chg.putRow ?_ _ _ _ (.inr (by first |exact Nat.le_refl _|omega|simp))|refine Chg.setCell ?_ _ _ _ (.inr (by first |exact Nat.le_refl _|omega|simp))))⟩
theorem dwithout_any (x:En) (c:Int) (w:World):Calls Tryz.prog 160 #[.agg (ec x),.int .i64 c] w fun e w'=>e=.returned (.agg (ec (withoutE x c)))∧Chg [] w w':=by
 by_cases h:x.ow=c
 ·have t0:(x.ow==c)=true:=by simpa using h
  have e1:withoutE x c=(x.setOw (-1)).setSh (x.sh&&& ~~~(bitM c)):=by simp [withoutE,h]
  rw [e1]
  clear e1 h
  go_enter Tryz.func160,Tryz.ntmps160
  try dsimp only [List.append]
  go_wp2_with fail
  refine gen_world2 (w:=w) (b1:=w.heap.size) (x1:=.cells (ec (x.setOw (-1))) 129 (0,0)) (b2:=w.heap.size+1) (x2:=.cells (ec (enZ)) 129 (0,0)) (by (repeat' (first |exact Chg.refl _ _|assumption|exact Chg.refl [] _|refine Chg.drew ?_|refine Chg.drewN ?_ _|refine Chg.alloc ?_ _|refine Chg.putRow ?_ _ _ _ (.inr (by first |exact Nat.le_refl _|omega|simp))|refine Chg.setCell ?_ _ _ _ (.inr (by first |exact Nat.le_refl _|omega|simp))))) (by simp) (by simp) fun w1 C1 rE rR=>?_
  have oE:=old rE
  have oR:=old rR
  go_region_with ((go_at_call 116;refine (gbit_any _ _).mono ?_;rintro e w' ⟨rfl,rfl⟩))
  all_goals
   go_wp2_with fail
   refine bodyPost_ret (v:=.agg (ec ((x.setOw (-1)).setSh (x.sh&&& ~~~(bitM c))))) ?_ (by rfl) ?_
   ·exact results_en1 (by rfl) _ _ (w.heap.size+1) _ (0,0) (by rfl) (by simp [*];try rfl)
   exact ⟨rfl,by (repeat' (first |exact Chg.refl _ _|assumption|exact Chg.refl [] _|refine Chg.drew ?_|refine Chg.drewN ?_ _|refine Chg.alloc ?_ _|refine Chg.putRow ?_ _ _ _ (.inr (by first |exact Nat.le_refl _|omega|simp))|refine Chg.setCell ?_ _ _ _ (.inr (by first |exact Nat.le_refl _|omega|simp))))⟩
 ·have t0:(x.ow==c)=false:=by simpa using h
  have e1:withoutE x c=x.setSh (x.sh&&& ~~~(bitM c)):=by simp [withoutE,h]
  rw [e1]
  clear e1 h
  go_enter Tryz.func160,Tryz.ntmps160
  try dsimp only [List.append]
  go_wp2_with fail
  refine gen_world2 (w:=w) (b1:=w.heap.size) (x1:=.cells (ec (x)) 129 (0,0)) (b2:=w.heap.size+1) (x2:=.cells (ec (enZ)) 129 (0,0)) (by (repeat' (first |exact Chg.refl _ _|assumption|exact Chg.refl [] _|refine Chg.drew ?_|refine Chg.drewN ?_ _|refine Chg.alloc ?_ _|refine Chg.putRow ?_ _ _ _ (.inr (by first |exact Nat.le_refl _|omega|simp))|refine Chg.setCell ?_ _ _ _ (.inr (by first |exact Nat.le_refl _|omega|simp))))) (by simp) (by simp) fun w1 C1 rE rR=>?_
  have oE:=old rE
  have oR:=old rR
  go_region_with ((go_at_call 116;refine (gbit_any _ _).mono ?_;rintro e w' ⟨rfl,rfl⟩))
  all_goals
   go_wp2_with fail
   refine bodyPost_ret (v:=.agg (ec ((x).setSh (x.sh&&& ~~~(bitM c))))) ?_ (by rfl) ?_
   ·exact results_en1 (by rfl) _ _ (w.heap.size+1) _ (0,0) (by rfl) (by simp [*];try rfl)
   exact ⟨rfl,by (repeat' (first |exact Chg.refl _ _|assumption|exact Chg.refl [] _|refine Chg.drew ?_|refine Chg.drewN ?_ _|refine Chg.alloc ?_ _|refine Chg.putRow ?_ _ _ _ (.inr (by first |exact Nat.le_refl _|omega|simp))|refine Chg.setCell ?_ _ _ _ (.inr (by first |exact Nat.le_refl _|omega|simp))))⟩
theorem eltSd:Elt Tryz.prog 130 142 13 96 (.agg (sc ⟨0,msZ⟩)) Sd.enc where
 slice:=Tryz.underlying130
 info:=by kernel_rfl
 zero:=rfl
 zone:=by intro v hv;exact Sd.one ⟨0,msZ⟩ v (by simpa [Value.cells,sc] using hv)
 pos:=by omega
 len:=Sd.len
 one:=Sd.one
theorem sd_lit (c:Int) (m:Ms) (C:Array Value) (h:C.size=13) (h0:C[0]? =some (.int .i64 c)):Array.foldl (fun cs y=>cs.setIfInBounds (1+y.snd) y.fst) C (msc m).zipIdx 0 12=sc ⟨c,m⟩:=by
 rw [fold_put _ _ _ _ (msc_size m) (by omega)]
 unfold splice
 have e1:C.toList.take 1=[.int .i64 c]:=by
  obtain ⟨l⟩:=C
  match l,h0 with
  |v::l,h0=>simp at h0;simp [h0]
 have e2:C.toList.drop (1+(msc m).toList.length)=[]:=List.drop_eq_nil_of_le (by simp [h,msc_size])
 rw [e1,e2]
 simp [sc,Sd.enc,msc]
def SdsTo (w:World) (xs:List Sd):Ending→World→Prop:=fun e w'=>∃A c,e=.returned (.slice A xs.length c)∧Sl w' 13 A xs.length (cat Sd.enc xs)∧(∀a,A=some a→w.heap.size≤a.block)∧Chg [] w w'
theorem Vec.sds {w w':World} {q be cap:Nat} {A:Option Addr} {xs:List Sd} (hv:Vec 13 142 Sd.enc w' q be A cap xs) (hb:be=q∨w.heap.size≤be) (hc:Chg [] w w'):SdsTo w xs (.returned (.slice A xs.length cap)) w':=by
 refine ⟨A,cap,rfl,hv.sl Sd.len,?_,hc⟩
 rintro a rfl
 rcases hv with ⟨_,h,_⟩|⟨h1,h2,_⟩
 ·cases h
 ·cases h2
  rcases hb with rfl|h
  ·exact absurd rfl h1
  ·exact h
theorem sd_slice (w:World) (s:Sd):Sl (w.alloc (.cells (sc s) 142)) 13 (some ⟨w.heap.size,0,none⟩) 1 (cat Sd.enc [s]):=
 ⟨by rw [cat_length Sd.len];rfl,.inr ⟨w.heap.size,0,sc s,142,(0,0),rfl,by simp,by rw [cat_one];simp [sc,Sd.len,List.take_of_length_le]⟩⟩
theorem cores_len (s:Mk):(coresL s).length≤8:=coresTo_len s 8
theorem dtell_any (s:Mk) (m:Ms) (w:World) (h0:Old w 0):Calls Tryz.prog 115 #[.int .u8 (mi s),.agg (msc m)] w (SdsTo w (tellL s m)):=by
 have H0:=Lib.hid h0
 have h8:=cores_len s
 clear h0
 go_enter Tryz.func115,Tryz.ntmps115
 try dsimp only [List.append]
 go_wp2_with fail
 refine gen_calls1 (w:=w) (b1:=w.heap.size) (x1:=.cells (msc m) 50 (0,0)) (by (repeat' (first |exact Chg.refl _ _|assumption|exact Chg.refl [] _|refine Chg.drew ?_|refine Chg.drewN ?_ _|refine Chg.alloc ?_ _|refine Chg.putRow ?_ _ _ _ (.inr (by first |exact Nat.le_refl _|omega|simp))|refine Chg.setCell ?_ _ _ _ (.inr (by first |exact Nat.le_refl _|omega|simp))))) (by simp) fun w1 C1 rM=>?_
 have oM:=old rM
 refine (gcores_any s w1 (H0.out.chg C1)).mono ?_
 rintro e w2 ⟨A,cp0,rfl,hs,hA,c2⟩
 have rM2:=c2.keep rM (by simp)
 have HA:=Lib.hid hs
 have C2:=Lib.hid (C1.trans c2)
 have HL:∃n,n=(coresL s).length:=⟨_,rfl⟩
 obtain ⟨N,hN⟩:=HL
 rw [←hN] at HA h8 ⊢
 have HN:=Lib.hid hN
 clear hs hA c2 C1 rM oM hN
 go_wp2_with fail
 go_loopw [5,11] (fun x i wr=>∃(k be cp:Nat) (B:Option Addr) (xs:List Sd),k≤N∧i=.int .i64 k∧xs=(tellL s m).take k∧x=.slice B xs.length cp∧Chg [] w2 wr∧Vec 13 142 Sd.enc wr 0 be B cp xs∧(be=0∨w2.heap.size≤be)) (fun _ i _=>N-(intOf i).toNat)
 case atStart=>exact ⟨0,0,0,none,[],by omega,rfl,rfl,rfl,Chg.refl _ _,Vec.nil _ _ _ _ _,.inl rfl⟩
 case round=>
  obtain ⟨k,be,cp,B,xs,hk,rfl,hxs,rfl,hc,hvb,hbe⟩:=hrel
  by_cases hlt:k<N
  ·have g1:(k:Int)<(N:Int):=by omega
   have g0:(0:Int)≤(k:Int):=by omega
   have g2:(N:Int)≤8:=by omega
   obtain ⟨b,o,rfl⟩:=HA.out.addr (by omega)
   obtain ⟨cs,t,f,hb,hcell⟩:=(HA.out.chg hc (by simp)).cell hlt
   obtain ⟨y,hy⟩:∃y,(coresL s)[k]? =some y:=⟨(coresL s)[k]'(by rw [←HN.out];exact hlt),List.getElem?_eq_getElem _⟩
   rw [List.getElem?_map,hy] at hcell
   simp only [Option.map_some] at hcell
   have rMr:=hc.keep rM2 (by simp)
   have oM:=old rMr
   have ht:xs++[⟨y,m⟩]=(tellL s m).take (k+1):=by rw [hxs,List.take_add_one];simp [tellL,hy]
   have hlen:xs.length≤8:=by rw [hxs,List.length_take];omega
   obtain ⟨be',cap',A',w3,happ,hv2,hbe2,hc2⟩:=Vec.acc (ty:=130) eltSd (hc.alloc (.cells (sc ⟨y,m⟩) 142)) (hvb.keep ((Chg.refl [] wr).alloc (.cells (sc ⟨y,m⟩) 142)) (by simp)) hbe ((H0.out.chg C2.out)) (sd_slice wr ⟨y,m⟩) (c:=1) rfl (by omega) (by unfold maxLen;omega)
   have HT:=Lib.hid ht
   have HL:=Lib.hid (show xs.length+1=(xs++[(⟨y,m⟩:Sd)]).length by rw [List.length_append];rfl)
   have HV2:=Lib.hid hv2
   have HB2:=Lib.hid hbe2
   have HC2:=Lib.hid hc2
   have hsd:=fun C h h0=>sd_lit y m C h h0
   clear hvb hc hbe hy ht hlen hv2 hbe2 hc2 hxs
   go_wp2_with fail
   go_roundw
   case rel=>exact ⟨k+1,be',cap',A',xs++[⟨y,m⟩],by omega,by go_num,HT.out,by rw [←HL.out],HC2.out,HV2.out,HB2.out⟩
   case measure=>simp [intOf];omega
  ·obtain rfl:k=N:=by omega
   have hall:xs=tellL s m:=by rw [hxs];exact List.take_of_length_le (by rw [HN.out];simp [tellL])
   have HV:=Lib.hid hvb
   have HC:=Lib.hid (C2.out.trans hc)
   have HB:=Lib.hid (show be=0∨w.heap.size≤be by have:=C2.out.size;omega)
   clear hvb hc hbe hxs
   go_wp2_with fail
   go_ret
   rw [←hall]
   exact Vec.sds HV.out HB.out HC.out
end
section
attribute [local go_sem ↓] loadEn storeEn loadSd storeSd en_z0
attribute [local go_sem] wideEn wideSd fold_sc size11 putRow_newB putRow_newC ms5_lit
attribute [local simp] en_z0 putRow_newB putRow_newC fit_le ec_has
def EnSds (w:World) (r:En×List Sd):Ending→World→Prop:=fun e w'=>∃A c,e=.returned (.tuple #[.agg (ec r.1),.slice A r.2.length c])∧Sl w' 13 A r.2.length (cat Sd.enc r.2)∧(∀a,A=some a→w.heap.size≤a.block)∧Chg [] w w'
theorem dtell4_any (s:Mk) (kd li:Int) (di ke:Bool) (w:World) (h0:Old w 0):Calls Tryz.prog 115 #[.int .u8 (mi s),.agg #[.int .i64 kd,.int .i64 li,.bool di,.bool ke,.int .u64 0,.int .u64 0,.int .u64 0,.int .u64 0,.int .u64 0,.int .u64 0,.int .u64 0,.int .u64 0]] w (SdsTo w (tellL s (ms4 kd li di ke))):=dtell_any s (ms4 kd li di ke) w h0
theorem downed_any (x:En) (c kd li:Int) (w:World) (h0:Old w 0):Calls Tryz.prog 162 #[.agg (ec x),.int .i64 c,.int .i64 kd,.int .i64 li] w (EnSds w (ownedE x c kd li)):=by
 have h8:((x.setOw c).setSh 0#8).l.length=8:=x.h
 go_enter Tryz.func162,Tryz.ntmps162
 try dsimp only [List.append]
 go_wp2_with fail
 refine gen_world2 (w:=w) (b1:=w.heap.size) (x1:=.cells (ec ((x.setOw c).setSh 0#8)) 129 (0,0)) (b2:=w.heap.size+1) (x2:=.cells (ec (enZ)) 129 (0,0)) (by (repeat' (first |exact Chg.refl _ _|assumption|exact Chg.refl [] _|refine Chg.drew ?_|refine Chg.drewN ?_ _|refine Chg.alloc ?_ _|refine Chg.putRow ?_ _ _ _ (.inr (by first |exact Nat.le_refl _|omega|simp))|refine Chg.setCell ?_ _ _ _ (.inr (by first |exact Nat.le_refl _|omega|simp))))) (by simp [*]) (by simp [*]) fun w1 C1 rE rR=>?_
 have oE:=old rE
 have oR:=old rR
 have o0:=h0.chg C1
 go_region_held3 (fun w'=>w'.heap[w.heap.size]? =some (.cells (ec ((x.setOw c).setSh 0#8)) 129 (0,0))) (first |exact rE|exact c2.keep rE (by simp)|exact c2.keep (by simp [*]) (by simp)|simp [*])
  (first
   |(go_at_call 116;refine (gbit_any _ _).mono ?_;rintro e w' ⟨rfl,rfl⟩)
   |(go_at_call 115;refine (dtell_any _ _ _ (by first |exact o0|exact o0.chg C1|(show (0:Nat)<_;simpa using o0.lt))).mono ?_;rintro e w' ⟨A2,n2,rfl,hs2,hA2,c2⟩;(have hA3:∀a,A2=some a→w1.heap.size≤a.block:=(by simpa using hA2));(first |(have rR2:=c2.keep rR (by simp))|(have rR2:=c2.keep (x:=.cells (ec ((x.setOw c).setSh 0#8)) 129 (0,0)) (k:=w.heap.size+1) (by simp [rR]) (by simp)))))
 all_goals
  go_wp2_with fail
  refine bodyPost_ret (v:=.tuple #[.agg (ec ((x.setOw c).setSh 0#8)),.slice A2 (ownedE x c kd li).2.length n2]) ?_ (by rfl) ?_
  ·exact results_en2 (by rfl) _ _ (w.heap.size+1) _ (0,0) (by rfl) (by first |exact rR2|(simp [rR2];done)) _ (by rfl)
  refine ⟨A2,n2,rfl,?_,fun a ha=>Nat.le_trans C1.size (hA3 a ha),by (repeat' (first |exact Chg.refl _ _|assumption|exact Chg.refl [] _|refine Chg.drew ?_|refine Chg.drewN ?_ _|refine Chg.alloc ?_ _|refine Chg.putRow ?_ _ _ _ (.inr (by first |exact Nat.le_refl _|omega|simp))|refine Chg.setCell ?_ _ _ _ (.inr (by first |exact Nat.le_refl _|omega|simp))|refine Chg.trans ?_ c2))⟩
  first
   |exact hs2
   |exact hs2.chg ((Chg.refl [w.heap.size+1] _).putRow _ _ _ (.inl (by simp))) (by intro a ha;have:=hA3 a ha;have:=oR.lt;simp;omega)
   |exact hs2.chg c3 (by simp)
   |exact (hs2.chg c3 (by simp)).chg ((Chg.refl [w.heap.size+1] _).putRow _ _ _ (.inl (by simp))) (by intro a ha;have:=hA3 a ha;have:=oR.lt;simp;omega)
theorem dshared_any (x:En) (c li:Int) (w:World) (h0:Old w 0):Calls Tryz.prog 161 #[.agg (ec x),.int .i64 c,.int .i64 li] w (EnSds w (sharedE x c li)):=by
 have h8:(x.setSh (x.sh|||bitM c)).l.length=8:=x.h
 go_enter Tryz.func161,Tryz.ntmps161
 try dsimp only [List.append]
 go_wp2_with fail
 refine gen_world2 (w:=w) (b1:=w.heap.size) (x1:=.cells (ec (x)) 129 (0,0)) (b2:=w.heap.size+1) (x2:=.cells (ec (enZ)) 129 (0,0)) (by (repeat' (first |exact Chg.refl _ _|assumption|exact Chg.refl [] _|refine Chg.drew ?_|refine Chg.drewN ?_ _|refine Chg.alloc ?_ _|refine Chg.putRow ?_ _ _ _ (.inr (by first |exact Nat.le_refl _|omega|simp))|refine Chg.setCell ?_ _ _ _ (.inr (by first |exact Nat.le_refl _|omega|simp))))) (by simp [*]) (by simp [*]) fun w1 C1 rE rR=>?_
 have oE:=old rE
 have oR:=old rR
 have o0:=h0.chg C1
 go_region_with ((go_at_call 116;refine (gbit_any _ _).mono ?_;rintro e w' ⟨rfl,rfl⟩))
 all_goals
  go_wp2_with fail
  refine gen_world2 (w:=w) (b1:=w.heap.size) (x1:=.cells (ec (x.setSh (x.sh|||bitM c))) 129 (0,0)) (b2:=w.heap.size+1) (x2:=.cells (ec (enZ)) 129 (0,0)) (by (repeat' (first |exact Chg.refl _ _|assumption|exact Chg.refl [] _|refine Chg.drew ?_|refine Chg.drewN ?_ _|refine Chg.alloc ?_ _|refine Chg.putRow ?_ _ _ _ (.inr (by first |exact Nat.le_refl _|omega|simp))|refine Chg.setCell ?_ _ _ _ (.inr (by first |exact Nat.le_refl _|omega|simp))))) (by simp [*]) (by simp [*]) fun w9 C9 rF rS=>?_
  have oF:=old rF
  have oS:=old rS
  have o9:=h0.chg C9
  go_region_held3 (fun w'=>w'.heap[w.heap.size]? =some (.cells (ec (x.setSh (x.sh|||bitM c))) 129 (0,0))) (first |exact rF|exact c2.keep rF (by simp)|exact c2.keep (by simp [*]) (by simp)|simp [*])
   (first
    |(go_at_call 116;refine (gbit_any _ _).mono ?_;rintro e w' ⟨rfl,rfl⟩)
    |(go_at_call 115;refine (dtell_any _ _ _ (by first |exact o9|exact o9.chg C9|(show (0:Nat)<_;simpa using o9.lt))).mono ?_;rintro e w' ⟨A2,n2,rfl,hs2,hA2,c2⟩;(have hA3:∀a,A2=some a→w9.heap.size≤a.block:=(by simpa using hA2));(first |(have rS2:=c2.keep rS (by simp))|(have rS2:=c2.keep (x:=.cells (ec (x.setSh (x.sh|||bitM c))) 129 (0,0)) (k:=w.heap.size+1) (by simp [rS]) (by simp)))))
  all_goals
   go_wp2_with fail
   refine bodyPost_ret (v:=.tuple #[.agg (ec (x.setSh (x.sh|||bitM c))),.slice A2 (sharedE x c li).2.length n2]) ?_ (by rfl) ?_
   ·exact results_en2 (by rfl) _ _ (w.heap.size+1) _ (0,0) (by rfl) (by first |exact rS2|(simp [rS2];done)) _ (by rfl)
   refine ⟨A2,n2,rfl,?_,fun a ha=>Nat.le_trans C9.size (hA3 a ha),by (repeat' (first |exact Chg.refl _ _|assumption|exact Chg.refl [] _|refine Chg.drew ?_|refine Chg.drewN ?_ _|refine Chg.alloc ?_ _|refine Chg.putRow ?_ _ _ _ (.inr (by first |exact Nat.le_refl _|omega|simp))|refine Chg.setCell ?_ _ _ _ (.inr (by first |exact Nat.le_refl _|omega|simp))|refine Chg.trans ?_ c2))⟩
   first
    |exact hs2
    |exact hs2.chg ((Chg.refl [w.heap.size+1] _).putRow _ _ _ (.inl (by simp))) (by intro a ha;have:=hA3 a ha;have:=oS.lt;simp;omega)
    |exact hs2.chg c3 (by simp)
    |exact (hs2.chg c3 (by simp)).chg ((Chg.refl [w.heap.size+1] _).putRow _ _ _ (.inl (by simp))) (by intro a ha;have:=hA3 a ha;have:=oS.lt;simp;omega)
theorem dwait_any (x:En) (c:Int) (m:Ms) (o:Mk) (kd:Int) (w:World) (h0:Old w 0):Calls Tryz.prog 181 #[.agg (ec x),.int .i64 c,.agg (msc m),.int .u8 (mi o),.int .i64 kd] w (EnSds w (waitE x c m o kd)):=by
 go_enter Tryz.func181,Tryz.ntmps181
 try dsimp only [List.append]
 go_wp2_with fail
 refine gen_world3 (w:=w) (b1:=w.heap.size) (x1:=.cells (ec (((x.setBu m.kd).setBy c).setWa o)) 129 (0,0)) (b2:=w.heap.size+1) (x2:=.cells (msc m) 50 (0,0)) (b3:=w.heap.size+2) (x3:=.cells (ec (enZ)) 129 (0,0)) (by (repeat' (first |exact Chg.refl _ _|assumption|exact Chg.refl [] _|refine Chg.drew ?_|refine Chg.drewN ?_ _|refine Chg.alloc ?_ _|refine Chg.putRow ?_ _ _ _ (.inr (by first |exact Nat.le_refl _|omega|simp))|refine Chg.setCell ?_ _ _ _ (.inr (by first |exact Nat.le_refl _|omega|simp))))) (by simp [*]) (by simp [*]) (by simp [*]) fun w1 C1 rE rM rR=>?_
 have oE:=old rE
 have oM:=old rM
 have oR:=old rR
 have o0:=h0.chg C1
 go_region_held3 (fun w'=>w'.heap[w.heap.size]? =some (.cells (ec (((x.setBu m.kd).setBy c).setWa o)) 129 (0,0))∧w'.heap[w.heap.size+1]? =some (.cells (msc m) 50 (0,0))) (first |exact ⟨rE,rM⟩|exact ⟨c2.keep rE (by simp),c2.keep rM (by simp)⟩|exact ⟨c2.keep (by simp [*]) (by simp),c2.keep (by simp [*]) (by simp)⟩|simp [*])
  (first
   |(go_at_call 115;refine (dtell4_any _ _ _ _ _ _ (by first |exact o0|exact o0.chg C1|(show (0:Nat)<_;simpa using o0.lt))).mono ?_;rintro e w' ⟨A2,n2,rfl,hs2,hA2,c2⟩;(have hA3:∀a,A2=some a→w1.heap.size≤a.block:=(by simpa using hA2));(first |(have rR2:=c2.keep rR (by simp))|(have rR2:=c2.keep (x:=.cells (ec (((x.setBu m.kd).setBy c).setWa o)) 129 (0,0)) (k:=w.heap.size+2) (by simp [rR]) (by simp)))))
 all_goals
  go_wp2_with fail
  refine bodyPost_ret (v:=.tuple #[.agg (ec (((x.setBu m.kd).setBy c).setWa o)),.slice A2 (waitE x c m o kd).2.length n2]) ?_ (by rfl) ?_
  ·exact results_en2 (by rfl) _ _ (w.heap.size+2) _ (0,0) (by rfl) (by first |exact rR2|(simp [rR2];done)) _ (by rfl)
  refine ⟨A2,n2,rfl,?_,fun a ha=>Nat.le_trans C1.size (hA3 a ha),by (repeat' (first |exact Chg.refl _ _|assumption|exact Chg.refl [] _|refine Chg.drew ?_|refine Chg.drewN ?_ _|refine Chg.alloc ?_ _|refine Chg.putRow ?_ _ _ _ (.inr (by first |exact Nat.le_refl _|omega|simp))|refine Chg.setCell ?_ _ _ _ (.inr (by first |exact Nat.le_refl _|omega|simp))|refine Chg.trans ?_ c2))⟩
  first
   |exact hs2
   |exact hs2.chg ((Chg.refl [w.heap.size+2] _).putRow _ _ _ (.inl (by simp))) (by intro a ha;have:=hA3 a ha;have:=oR.lt;simp;omega)
   |exact hs2.chg c3 (by simp)
   |exact (hs2.chg c3 (by simp)).chg ((Chg.refl [w.heap.size+2] _).putRow _ _ _ (.inl (by simp))) (by intro a ha;have:=hA3 a ha;have:=oR.lt;simp;omega)
end
section
set_option maxRecDepth 100000
attribute [local go_sem ↓] loadEn storeEn loadSd storeSd en_z0
attribute [local go_sem] wideEn wideSd fold_sc size11 putRow_newB putRow_newC ms5_lit
attribute [local simp] en_z0 putRow_newB putRow_newC fit_le ec_has
theorem dempty_any (w:World):Calls Tryz.prog 73 #[] w fun e w'=>e=.returned (.agg (ec enE))∧Chg [] w w':=by
 go_enter Tryz.func73,Tryz.ntmps73
 try dsimp only [List.append]
 go_wp2
 refine bodyPost_ret (v:=.agg (ec enE)) ?_ (by rfl) ?_
 ·exact results_en1 (by rfl) _ _ (w.heap.size) enE (0,0) (by rfl) (by simp;rfl)
 exact ⟨rfl,by (repeat' (first |with_reducible exact Chg.refl _ _|with_reducible assumption|with_reducible refine Chg.drew ?_|with_reducible refine Chg.drewN ?_ _|with_reducible refine Chg.alloc ?_ _|with_reducible refine Chg.putRow ?_ _ _ _ (.inr ?_)|with_reducible refine Chg.setCell ?_ _ _ _ (.inr ?_)|(show _≤_;first |exact Nat.le_refl _|omega|(simp;done))))⟩
def eqE (a b:En):Bool:=a.he==b.he&&(a.di==b.di&&(a.l==b.l&&(a.ow==b.ow&&(a.sh==b.sh&&(a.bu==b.bu&&(a.by_==b.by_&&a.wa==b.wa))))))
theorem eqE_iff (a b:En):eqE a b=decide (a=b):=by
 rw [Bool.eq_iff_iff,decide_eq_true_eq]
 simp only [eqE,Bool.and_eq_true,beq_iff_eq]
 constructor
 ·rintro ⟨h1,h2,h3,h4,h5,h6,h7,h8⟩;exact En.same h1 h2 h3 h4 h5 h6 h7 h8
 ·rintro rfl;exact ⟨rfl,rfl,rfl,rfl,rfl,rfl,rfl,rfl⟩
theorem line_partE (e:En) (w:World):(part 48 (ec e) 2).run Tryz.prog w=.ok (.agg (vs e.l)) w:=by
 obtain ⟨i,hi⟩:∃i,Tryz.prog.info? 48=some i:=Option.isSome_iff_exists.1 (by kernel_rfl)
 have hc:Tryz.prog.cellsOf 48=8:=by kernel_rfl
 have he:(ec e).extract 2 (2+8)=vs e.l:=by
  obtain ⟨he,di,l,ow,sh,bu,by_,wa,h⟩:=e
  obtain ⟨a0,a1,a2,a3,a4,a5,a6,a7,rfl⟩:=eight h
  rfl
 simp [part,isAgg,run_underlying Tryz.underlying48,he]
theorem run_ite' {P:Program} {α:Type} (c:Prop) [Decidable c] (x y:Sem α) (w:World):(if c then x else y).run P w=if c then x.run P w else y.run P w:=by split<;>rfl
theorem en_eq (a b:En) (w:World):(Op.equalIn 10000 129 (.agg (ec a)) (.agg (ec b))).run Tryz.prog w=.ok (decide (a=b)) w:=by
 have p:=fun (x:En)=>run_part_plain (P:=Tryz.prog) w (e:=4) (by kernel_rfl) (ec_he x)
 have q:=fun (x:En)=>run_part_plain (P:=Tryz.prog) w (e:=4) (by kernel_rfl) (ec_di x)
 have r:=fun (x:En)=>run_part_plain (P:=Tryz.prog) w (e:=3) (by kernel_rfl) (ec_ow x)
 have s:=fun (x:En)=>run_part_plain (P:=Tryz.prog) w (e:=5) (by kernel_rfl) (ec_sh x)
 have t:=fun (x:En)=>run_part_plain (P:=Tryz.prog) w (e:=3) (by kernel_rfl) (ec_bu x)
 have u:=fun (x:En)=>run_part_plain (P:=Tryz.prog) w (e:=3) (by kernel_rfl) (ec_by x)
 have v:=fun (x:En)=>run_part_plain (P:=Tryz.prog) w (e:=5) (by kernel_rfl) (ec_wa x)
 have l:=fun (x:En)=>line_partE x w
 have e0:=fun a b=>run_equalIn_int w 9998 3 .i64 .i64 a b Tryz.underlying3
 have e8:=fun a b=>run_equalIn_int w 9998 5 .u8 .u8 a b Tryz.underlying5
 have e1:=fun a b=>run_equalIn_bool w 9998 4 a b Tryz.underlying4
 have e2:(Op.equalIn 9999 48 (.agg (vs a.l)) (.agg (vs b.l))).run Tryz.prog w=.ok (a.l==b.l) w:=by
  obtain ⟨i0,hi0⟩:∃i,Tryz.prog.info? 43=some i:=Option.isSome_iff_exists.1 (by kernel_rfl)
  rw [run_equalIn_array w 9998 _ _ Tryz.underlying48 hi0,show Tryz.prog.cellsOf 43=1 by kernel_rfl]
  have:=eqItems_ints (P:=Tryz.prog) w 9997 (k:=.u64) Tryz.underlying43 (by kernel_rfl) a.l b.l (List.range 8) (by intro i hi;have:=a.h;have:=b.h;simp at hi;omega)
  unfold vs
  rw [this]
  congr 1
  rw [Bool.eq_iff_iff]
  simp only [List.all_eq_true,List.mem_range,beq_iff_eq]
  constructor
  ·intro h
   apply List.ext_getElem (by rw [a.h,b.h])
   intro j h1 h2
   have:=h j (by rw [a.h] at h1;exact h1)
   simpa [h1,h2] using this
  ·intro h j _;rw [h]
 rw [←eqE_iff,run_equalIn_struct w 9999 129 _ _ (by simp only [Program.fieldsOf,Tryz.underlying129]) (by kernel_rfl)]
 simp only [Program.fieldsOf,Tryz.underlying129]
 unfold eqE
 simp only [←mi_beq]
 simp only [Op.eqFields,ne_eq,String.reduceEq,not_false_eq_true,↓reduceIte,Sem.run_bind,p,q,r,s,t,u,v,l,e0,e8,e1,e2,Result.andThen_ok,run_ite',Bool.not_eq_true']
 generalize (a.he==b.he)=x1
 generalize (a.di==b.di)=x2
 generalize (a.l==b.l)=x3
 generalize (a.ow==b.ow)=x4
 generalize (mi a.sh==mi b.sh)=x5
 generalize (a.bu==b.bu)=x6
 generalize (a.by_==b.by_)=x7
 generalize (mi a.wa==mi b.wa)=x8
 clear p q r s t u v l e0 e8 e1 e2
 cases x1
 ·simp
 cases x2
 ·simp
 cases x3
 ·simp
 cases x4
 ·simp
 cases x5
 ·simp
 cases x6
 ·simp
 cases x7
 ·simp
 cases x8<;>simp
theorem calls_aftC {P:Program} {f:FuncId} {args:Array Value} {N:Nat} {W:World} {x:Aft N W} {v:Value} (hN:N≤W.heap.size)
 (h:Calls P f args x.w fun e w'=>e=.returned v∧Chg [] x.w w'):Calls P f args x.w fun e w''=>e=.returned v∧∃y:Aft N W,w''=y.w:=
 calls_aft hN (h.mono fun _ _ ⟨he,hc⟩=>⟨he,hc.below (Nat.le_refl _) (by simp)⟩)
theorem dcore_at (c:Int) (b:Bool) (h:isC c=b) (w:World):Calls Tryz.prog 95 #[.int .i64 c] w fun e w'=>e=.returned (.bool b)∧w=w':=h▸dcore_any c w
theorem dgoodOwner_any (x:En) (w:World):Calls Tryz.prog 145 #[.agg (ec x)] w fun e w'=>e=.returned (.bool (goodOw x))∧Chg [] w w':=by
 unfold goodOw
 cases t1:(x.ow== -1)
 ·cases t2:isC x.ow
  all_goals
   go_enter Tryz.func145,Tryz.ntmps145
   try dsimp only [List.append]
   go_wp2_with (go_at_call 95;refine (dcore_at _ _ t2 _).mono ?_;rintro e w' ⟨rfl,rfl⟩)
   go_ret
   exact ⟨by simp,by (repeat' (first |with_reducible exact Chg.refl _ _|with_reducible assumption|with_reducible refine Chg.drew ?_|with_reducible refine Chg.drewN ?_ _|with_reducible refine Chg.alloc ?_ _|with_reducible refine Chg.putRow ?_ _ _ _ (.inr ?_)|with_reducible refine Chg.setCell ?_ _ _ _ (.inr ?_)|(show _≤_;first |exact Nat.le_refl _|omega|(simp;done))))⟩
 ·skip
  go_enter Tryz.func145,Tryz.ntmps145
  try dsimp only [List.append]
  go_wp2_with fail
  go_ret
  exact ⟨by simp,by (repeat' (first |with_reducible exact Chg.refl _ _|with_reducible assumption|with_reducible refine Chg.drew ?_|with_reducible refine Chg.drewN ?_ _|with_reducible refine Chg.alloc ?_ _|with_reducible refine Chg.putRow ?_ _ _ _ (.inr ?_)|with_reducible refine Chg.setCell ?_ _ _ _ (.inr ?_)|(show _≤_;first |exact Nat.le_refl _|omega|(simp;done))))⟩
theorem dgoodWait_any (x:En) (w:World):Calls Tryz.prog 180 #[.agg (ec x)] w fun e w'=>e=.returned (.bool (goodWa x))∧Chg [] w w':=by
 unfold goodWa
 cases t2:isC x.by_
 all_goals
  go_enter Tryz.func180,Tryz.ntmps180
  try dsimp only [List.append]
  go_wp2_with fail
  refine gen_world1 (w:=w) (b1:=w.heap.size) (x1:=.cells (ec (x)) 129 (0,0)) (by (repeat' (first |with_reducible exact Chg.refl _ _|with_reducible assumption|with_reducible refine Chg.drew ?_|with_reducible refine Chg.drewN ?_ _|with_reducible refine Chg.alloc ?_ _|with_reducible refine Chg.putRow ?_ _ _ _ (.inr ?_)|with_reducible refine Chg.setCell ?_ _ _ _ (.inr ?_)|(show _≤_;first |exact Nat.le_refl _|omega|(simp;done))))) (by simp [*]) fun w1 C1 rE=>?_
  have oE:=old rE
  have hx:∀y:Aft w1.heap.size w1,y.w.heap[w.heap.size]? =some (.cells (ec (x)) 129 (0,0)):=fun y=>(y.block oE.lt).trans rE
  refine wp_region_aft w1.heap.size (by kernel_rfl) (by kernel_rfl) ?_
  repeat (go_big_quiet_step (first
   |(go_at_call 95;exact calls_aft_same (dcore_at _ _ t2 _))
   |(go_at_call 182;exact calls_aftC (Nat.le_refl _) (dholders_any _ _))))
  refine wpQuiet_nil ?_
  rintro _ ⟨y,rfl⟩
  go_wp2_with fail
  go_ret
  exact ⟨by simp,C1.trans (Below.chg y.below (Nat.le_refl _))⟩
theorem dgoodWait_at (x:En) (b:Bool) (h:goodWa x=b) (w:World):Calls Tryz.prog 180 #[.agg (ec x)] w fun e w'=>e=.returned (.bool b)∧Chg [] w w':=h▸dgoodWait_any x w
theorem dgoodBusy_any (x:En) (w:World):Calls Tryz.prog 146 #[.agg (ec x)] w fun e w'=>e=.returned (.bool (goodBu x))∧Chg [] w w':=by
 by_cases h0:x.bu=0
 ·have e1:goodBu x=(x.by_==0&&x.wa==0#8):=by simp [goodBu,h0]
  have t0:(x.bu==0)=true:=by simp [h0]
  rw [e1]
  clear e1 h0
  cases t1:(x.by_==0)
  all_goals
   go_enter Tryz.func146,Tryz.ntmps146
   try dsimp only [List.append]
   go_wp2_with fail
   go_ret
   exact ⟨by simp,by (repeat' (first |with_reducible exact Chg.refl _ _|with_reducible assumption|with_reducible refine Chg.drew ?_|with_reducible refine Chg.drewN ?_ _|with_reducible refine Chg.alloc ?_ _|with_reducible refine Chg.putRow ?_ _ _ _ (.inr ?_)|with_reducible refine Chg.setCell ?_ _ _ _ (.inr ?_)|(show _≤_;first |exact Nat.le_refl _|omega|(simp;done))))⟩
 have t0:(x.bu==0)=false:=by simp [h0]
 by_cases h1:x.bu=1∨x.bu=2
 ·have e1:goodBu x=(goodWa x&&x.wa !=0#8):=by simp [goodBu,h0,h1]
  rw [e1]
  clear e1 h0
  have h2:(x.bu==1)=true∨((x.bu==1)=false∧(x.bu==2)=true):=by
   rcases h1 with h|h<;>simp [h]
  clear h1
  have rE:(w.alloc (.cells (ec (x)) 129 (0,0))).heap[w.heap.size]? =some (.cells (ec (x)) 129 (0,0)):=by simp
  have C1:=(Chg.refl [] w).alloc (.cells (ec (x)) 129 (0,0))
  rcases h2 with t1|⟨t1,t2⟩
  all_goals
   cases t3:goodWa x
   all_goals
    go_enter Tryz.func146,Tryz.ntmps146
    try dsimp only [List.append]
    go_wp2_with fail
    generalize w.alloc (.cells (ec (x)) 129 (0,0))=w1 at rE C1 ⊢
    refine (dgoodWait_at x _ t3 _).mono ?_
    rintro e w3 ⟨rfl,c3⟩
    have rE3:=c3.keep rE (by simp)
    clear rE
    go_wp2_with fail
    go_ret
    exact ⟨by simp,C1.trans c3⟩
 have t1:(x.bu==1)=false:=by simp;omega
 have t2:(x.bu==2)=false:=by simp;omega
 by_cases h2:x.bu=4∨x.bu=5
 ·have e1:goodBu x=goodWa x:=by simp [goodBu,h0,h1,h2]
  rw [e1]
  clear e1 h0 h1
  have h3:(x.bu==4)=true∨((x.bu==4)=false∧(x.bu==5)=true):=by
   rcases h2 with h|h<;>simp [h]
  clear h2
  rcases h3 with t3|⟨t3,t4⟩
  all_goals
   go_enter Tryz.func146,Tryz.ntmps146
   try dsimp only [List.append]
   go_wp2_with (go_at_call 180;refine (dgoodWait_any x _).mono ?_;rintro e w3 ⟨rfl,c3⟩)
   go_ret
   exact ⟨rfl,((Chg.refl [] w).alloc _).trans c3⟩
 ·have e1:goodBu x=false:=by simp [goodBu,h0,h1,h2]
  have t3:(x.bu==4)=false:=by simp;omega
  have t4:(x.bu==5)=false:=by simp;omega
  rw [e1]
  clear e1 h0 h1 h2
  go_enter Tryz.func146,Tryz.ntmps146
  try dsimp only [List.append]
  go_wp2_with fail
  go_ret
  exact ⟨rfl,by (repeat' (first |with_reducible exact Chg.refl _ _|with_reducible assumption|with_reducible refine Chg.drew ?_|with_reducible refine Chg.drewN ?_ _|with_reducible refine Chg.alloc ?_ _|with_reducible refine Chg.putRow ?_ _ _ _ (.inr ?_)|with_reducible refine Chg.setCell ?_ _ _ _ (.inr ?_)|(show _≤_;first |exact Nat.le_refl _|omega|(simp;done))))⟩
theorem dgoodOwner_at (x:En) (b:Bool) (h:goodOw x=b) (w:World):Calls Tryz.prog 145 #[.agg (ec x)] w fun e w'=>e=.returned (.bool b)∧Chg [] w w':=h▸dgoodOwner_any x w
attribute [local go_sem ↓] en_eq
theorem dgood_any (x:En) (w:World):Calls Tryz.prog 94 #[.agg (ec x)] w fun e w'=>e=.returned (.bool (goodE x))∧Chg [] w w':=by
 cases h:x.he
 ·have e1:goodE x=decide (x=enE):=by simp [goodE,h]
  rw [e1]
  clear e1
  go_enter Tryz.func94,Tryz.ntmps94
  try dsimp only [List.append]
  go_wp2_with fail
  refine gen_world1 (w:=w) (b1:=w.heap.size) (x1:=.cells (ec (x)) 129 (0,0)) (by (repeat' (first |with_reducible exact Chg.refl _ _|with_reducible assumption|with_reducible refine Chg.drew ?_|with_reducible refine Chg.drewN ?_ _|with_reducible refine Chg.alloc ?_ _|with_reducible refine Chg.putRow ?_ _ _ _ (.inr ?_)|with_reducible refine Chg.setCell ?_ _ _ _ (.inr ?_)|(show _≤_;first |exact Nat.le_refl _|omega|(simp;done))))) (by simp [*]) fun w1 C1 rE=>?_
  have oE:=old rE
  have hx:∀y:Aft w1.heap.size w1,y.w.heap[w.heap.size]? =some (.cells (ec (x)) 129 (0,0)):=fun y=>(y.block oE.lt).trans rE
  refine wp_region_aft w1.heap.size (by kernel_rfl) (by kernel_rfl) ?_
  repeat (go_big_quiet_step (first
   |(go_at_call 73;exact calls_aftC (Nat.le_refl _) (dempty_any _))))
  refine wpQuiet_nil ?_
  rintro _ ⟨y,rfl⟩
  go_wp2_with fail
  go_ret
  exact ⟨rfl,C1.trans (Below.chg y.below (Nat.le_refl _))⟩
 ·have e1:goodE x=(goodOw x&&goodBu x):=by simp [goodE,h]
  rw [e1]
  clear e1
  have rE:(w.alloc (.cells (ec (x)) 129 (0,0))).heap[w.heap.size]? =some (.cells (ec (x)) 129 (0,0)):=by simp
  have C1:=(Chg.refl [] w).alloc (.cells (ec (x)) 129 (0,0))
  cases t1:goodOw x
  all_goals
   go_enter Tryz.func94,Tryz.ntmps94
   try dsimp only [List.append]
   go_wp2_with fail
   generalize w.alloc (.cells (ec (x)) 129 (0,0))=w1 at rE C1 ⊢
   refine (dgoodOwner_at x _ t1 _).mono ?_
   rintro e w3 ⟨rfl,c3⟩
   have rE3:=c3.keep rE (by simp)
   have C3:=C1.trans c3
   clear rE C1 c3
   go_wp2_with (go_at_call 146;refine (dgoodBusy_any x _).mono ?_;rintro e w4 ⟨rfl,c4⟩)
   go_ret
   first
    |exact ⟨by simp,C3.trans c4⟩
    |exact ⟨by simp,C3⟩
theorem dgood_at (x:En) (b:Bool) (h:goodE x=b) (w:World):Calls Tryz.prog 94 #[.agg (ec x)] w fun e w'=>e=.returned (.bool b)∧Chg [] w w':=h▸dgood_any x w
theorem dready_any (x:En) (w:World):Calls Tryz.prog 113 #[.agg (ec x)] w fun e w'=>e=.returned (.bool (readyE x))∧Chg [] w w':=by
 unfold readyE
 have rE:(w.alloc (.cells (ec (x)) 129 (0,0))).heap[w.heap.size]? =some (.cells (ec (x)) 129 (0,0)):=by simp
 have C1:=(Chg.refl [] w).alloc (.cells (ec (x)) 129 (0,0))
 cases t1:goodE x
 ·skip
  go_enter Tryz.func113,Tryz.ntmps113
  try dsimp only [List.append]
  go_wp2_with fail
  generalize w.alloc (.cells (ec (x)) 129 (0,0))=w1 at rE C1 ⊢
  refine (dgood_at x _ t1 _).mono ?_
  rintro e w3 ⟨rfl,c3⟩
  go_wp2_with fail
  go_ret
  exact ⟨by simp,C1.trans c3⟩
 ·cases t2:(x.bu==4)<;>cases t3:(x.bu==5)
  all_goals
   go_enter Tryz.func113,Tryz.ntmps113
   try dsimp only [List.append]
   go_wp2_with fail
   generalize w.alloc (.cells (ec (x)) 129 (0,0))=w1 at rE C1 ⊢
   refine (dgood_at x _ t1 _).mono ?_
   rintro e w3 ⟨rfl,c3⟩
   have rE3:=c3.keep rE (by simp)
   clear rE
   go_wp2_with fail
   go_ret
   exact ⟨by simp,C1.trans c3⟩
end
section
set_option maxRecDepth 100000
attribute [local go_sem ↓] loadEn storeEn loadSd storeSd en_z0
attribute [local go_sem] wideEn wideSd fold_sc size11 putRow_newB putRow_newC ms5_lit
attribute [local simp] en_z0 putRow_newB putRow_newC fit_le ec_has
theorem dgetS_any (x:En) (c:Int) (m:Ms) (w:World) (h0:Old w 0):Calls Tryz.prog 148 #[.agg (ec x),.int .i64 c,.agg (msc m)] w (EnSds w (getSE x c m)):=by
 by_cases h:x.ow≠ -1∧x.ow≠c
 ·have e1:getSE x c m=waitE x c m (bitM x.ow) 13:=by unfold getSE;rw [if_pos h]
  rw [e1]
  have t0:(x.ow !=-1)=true:=by simpa using h.1
  have t1:(x.ow !=c)=true:=by simpa using h.2
  clear e1 h
  go_enter Tryz.func148,Tryz.ntmps148
  try dsimp only [List.append]
  go_wp2_with fail
  refine gen_world3 (w:=w) (b1:=w.heap.size) (x1:=.cells (ec (x)) 129 (0,0)) (b2:=w.heap.size+1) (x2:=.cells (msc m) 50 (0,0)) (b3:=w.heap.size+2) (x3:=.cells (ec (enZ)) 129 (0,0)) (by (repeat' (first |exact Chg.refl _ _|assumption|exact Chg.refl [] _|refine Chg.drew ?_|refine Chg.drewN ?_ _|refine Chg.alloc ?_ _|refine Chg.putRow ?_ _ _ _ (.inr (by first |exact Nat.le_refl _|omega|simp))|refine Chg.setCell ?_ _ _ _ (.inr (by first |exact Nat.le_refl _|omega|simp))))) (by simp [*]) (by simp [*]) (by simp [*]) fun w1 C1 rE rM rR=>?_
  have oE:=old rE
  have oM:=old rM
  have oR:=old rR
  have o0:=h0.chg C1
  go_region_held3 (fun w'=>w'.heap[w.heap.size]? =some (.cells (ec (x)) 129 (0,0))∧w'.heap[w.heap.size+1]? =some (.cells (msc m) 50 (0,0))) (first |exact ⟨rE,rM⟩|exact ⟨c2.keep rE (by simp),c2.keep rM (by simp)⟩|exact ⟨c2.keep (by simp [*]) (by simp),c2.keep (by simp [*]) (by simp)⟩|simp [*])
   (first
    |(go_at_call 116;refine (gbit_any _ _).mono ?_;rintro e w' ⟨rfl,rfl⟩)
    |(go_at_call 181;refine (dwait_any _ _ _ _ _ _ ?_).mono ?_;exact (by first |exact o0|exact o0.chg C1|(show (0:Nat)<_;simpa using o0.lt));rintro e w' ⟨A2,n2,rfl,hs2,hA2,c2⟩;(have hA3:∀a,A2=some a→w1.heap.size≤a.block:=(by simpa using hA2));(first |(have rR2:=c2.keep rR (by simp))|(have rR2:=c2.keep (x:=.cells (ec (x)) 129 (0,0)) (k:=w.heap.size+2) (by simp [rR]) (by simp)))))
  all_goals
   go_wp2_with fail
   refine bodyPost_ret (v:=.tuple #[.agg (ec ((waitE x c m (bitM x.ow) 13).1)),.slice A2 (waitE x c m (bitM x.ow) 13).2.length n2]) ?_ (by rfl) ?_
   ·exact results_en2 (by rfl) _ _ (w.heap.size+2) _ (0,0) (by rfl) (by first |exact rR2|(simp [rR2];done)) _ (by rfl)
   refine ⟨A2,n2,rfl,?_,fun a ha=>Nat.le_trans C1.size (hA3 a ha),by (repeat' (first |exact Chg.refl _ _|assumption|exact Chg.refl [] _|refine Chg.drew ?_|refine Chg.drewN ?_ _|refine Chg.alloc ?_ _|refine Chg.putRow ?_ _ _ _ (.inr (by first |exact Nat.le_refl _|omega|simp))|refine Chg.setCell ?_ _ _ _ (.inr (by first |exact Nat.le_refl _|omega|simp))|refine Chg.trans ?_ c2))⟩
   first
    |exact hs2
    |exact hs2.chg ((Chg.refl [w.heap.size+2] _).putRow _ _ _ (.inl (by simp))) (by intro a ha;have:=hA3 a ha;have:=oR.lt;simp;omega)
    |exact hs2.chg c3 (by simp)
    |exact (hs2.chg c3 (by simp)).chg ((Chg.refl [w.heap.size+2] _).putRow _ _ _ (.inl (by simp))) (by intro a ha;have:=hA3 a ha;have:=oR.lt;simp;omega)
 ·have h2:(x.ow !=-1)=false∨((x.ow !=-1)=true∧(x.ow !=c)=false):=by
   by_cases a:x.ow= -1
   ·exact .inl (by simp [a])
   ·have b:x.ow=c:=Decidable.byContradiction fun b=>h ⟨a,b⟩
    exact .inr ⟨by simpa using a,by simp [b]⟩
  by_cases hs:x.sh=0#8
  ·have e1:getSE x c m=ownedE x c 9 m.li:=by unfold getSE;rw [if_neg h,if_pos hs]
   rw [e1]
   have t3:(x.sh==0#8)=true:=by simpa using hs
   clear e1 h hs
   rcases h2 with t0|⟨t0,t1⟩
   all_goals
    go_enter Tryz.func148,Tryz.ntmps148
    try dsimp only [List.append]
    go_wp2_with fail
    refine gen_calls3 (w:=w) (b1:=w.heap.size) (x1:=.cells (ec (x)) 129 (0,0)) (b2:=w.heap.size+1) (x2:=.cells (msc m) 50 (0,0)) (b3:=w.heap.size+2) (x3:=.cells (ec (enZ)) 129 (0,0)) (by (repeat' (first |exact Chg.refl _ _|assumption|exact Chg.refl [] _|refine Chg.drew ?_|refine Chg.drewN ?_ _|refine Chg.alloc ?_ _|refine Chg.putRow ?_ _ _ _ (.inr (by first |exact Nat.le_refl _|omega|simp))|refine Chg.setCell ?_ _ _ _ (.inr (by first |exact Nat.le_refl _|omega|simp))))) (by simp [*]) (by simp [*]) (by simp [*]) fun w1 C1 rE rM rR=>?_
    have oE:=old rE
    have oM:=old rM
    have oR:=old rR
    have o0:=h0.chg C1
    refine (downed_any x c 9 m.li _ o0).mono ?_
    rintro e w2 ⟨A2,n2,rfl,hs2,hA3,c2⟩
    have rR2:=c2.keep rR (by simp)
    have oR2:=old rR2
    go_wp2_with fail
    refine bodyPost_ret (v:=.tuple #[.agg (ec ((ownedE x c 9 m.li).1)),.slice A2 (ownedE x c 9 m.li).2.length n2]) ?_ (by rfl) ?_
    ·exact results_en2 (by rfl) _ _ (w.heap.size+2) _ (0,0) (by rfl) (by first |exact rR2|(simp [rR2];done)) _ (by rfl)
    refine ⟨A2,n2,rfl,?_,fun a ha=>Nat.le_trans C1.size (hA3 a ha),by (repeat' (first |exact Chg.refl _ _|assumption|exact Chg.refl [] _|refine Chg.drew ?_|refine Chg.drewN ?_ _|refine Chg.alloc ?_ _|refine Chg.putRow ?_ _ _ _ (.inr (by first |exact Nat.le_refl _|omega|simp))|refine Chg.setCell ?_ _ _ _ (.inr (by first |exact Nat.le_refl _|omega|simp))|refine Chg.trans ?_ c2))⟩
    exact hs2.chg ((Chg.refl [w.heap.size+2] _).putRow _ _ _ (.inl (by simp))) (by intro a ha;have:=hA3 a ha;have:=oR.lt;simp;omega)
  ·have e1:getSE x c m=sharedE x c m.li:=by unfold getSE;rw [if_neg h,if_neg hs]
   rw [e1]
   have t3:(x.sh==0#8)=false:=by simpa using hs
   clear e1 h hs
   rcases h2 with t0|⟨t0,t1⟩
   all_goals
    go_enter Tryz.func148,Tryz.ntmps148
    try dsimp only [List.append]
    go_wp2_with fail
    refine gen_calls3 (w:=w) (b1:=w.heap.size) (x1:=.cells (ec (x)) 129 (0,0)) (b2:=w.heap.size+1) (x2:=.cells (msc m) 50 (0,0)) (b3:=w.heap.size+2) (x3:=.cells (ec (enZ)) 129 (0,0)) (by (repeat' (first |exact Chg.refl _ _|assumption|exact Chg.refl [] _|refine Chg.drew ?_|refine Chg.drewN ?_ _|refine Chg.alloc ?_ _|refine Chg.putRow ?_ _ _ _ (.inr (by first |exact Nat.le_refl _|omega|simp))|refine Chg.setCell ?_ _ _ _ (.inr (by first |exact Nat.le_refl _|omega|simp))))) (by simp [*]) (by simp [*]) (by simp [*]) fun w1 C1 rE rM rR=>?_
    have oE:=old rE
    have oM:=old rM
    have oR:=old rR
    have o0:=h0.chg C1
    refine (dshared_any x c m.li _ o0).mono ?_
    rintro e w2 ⟨A2,n2,rfl,hs2,hA3,c2⟩
    have rR2:=c2.keep rR (by simp)
    have oR2:=old rR2
    go_wp2_with fail
    refine bodyPost_ret (v:=.tuple #[.agg (ec ((sharedE x c m.li).1)),.slice A2 (sharedE x c m.li).2.length n2]) ?_ (by rfl) ?_
    ·exact results_en2 (by rfl) _ _ (w.heap.size+2) _ (0,0) (by rfl) (by first |exact rR2|(simp [rR2];done)) _ (by rfl)
    refine ⟨A2,n2,rfl,?_,fun a ha=>Nat.le_trans C1.size (hA3 a ha),by (repeat' (first |exact Chg.refl _ _|assumption|exact Chg.refl [] _|refine Chg.drew ?_|refine Chg.drewN ?_ _|refine Chg.alloc ?_ _|refine Chg.putRow ?_ _ _ _ (.inr (by first |exact Nat.le_refl _|omega|simp))|refine Chg.setCell ?_ _ _ _ (.inr (by first |exact Nat.le_refl _|omega|simp))|refine Chg.trans ?_ c2))⟩
    exact hs2.chg ((Chg.refl [w.heap.size+2] _).putRow _ _ _ (.inl (by simp))) (by intro a ha;have:=hA3 a ha;have:=oR.lt;simp;omega)
theorem dclean_any (x:En) (c:Int) (m:Ms) (w:World) (h0:Old w 0):Calls Tryz.prog 151 #[.agg (ec x),.int .i64 c,.agg (msc m)] w (EnSds w (cleanE x c m)):=by
 rw [show cleanE x c m=waitE x c m (bitM x.ow) 13 from rfl]
 go_enter Tryz.func151,Tryz.ntmps151
 try dsimp only [List.append]
 go_wp2_with fail
 refine gen_world3 (w:=w) (b1:=w.heap.size) (x1:=.cells (ec (x)) 129 (0,0)) (b2:=w.heap.size+1) (x2:=.cells (msc m) 50 (0,0)) (b3:=w.heap.size+2) (x3:=.cells (ec (enZ)) 129 (0,0)) (by (repeat' (first |exact Chg.refl _ _|assumption|exact Chg.refl [] _|refine Chg.drew ?_|refine Chg.drewN ?_ _|refine Chg.alloc ?_ _|refine Chg.putRow ?_ _ _ _ (.inr (by first |exact Nat.le_refl _|omega|simp))|refine Chg.setCell ?_ _ _ _ (.inr (by first |exact Nat.le_refl _|omega|simp))))) (by simp [*]) (by simp [*]) (by simp [*]) fun w1 C1 rE rM rR=>?_
 have oE:=old rE
 have oM:=old rM
 have oR:=old rR
 have o0:=h0.chg C1
 go_region_held3 (fun w'=>w'.heap[w.heap.size]? =some (.cells (ec (x)) 129 (0,0))∧w'.heap[w.heap.size+1]? =some (.cells (msc m) 50 (0,0))) (first |exact ⟨rE,rM⟩|exact ⟨c2.keep rE (by simp),c2.keep rM (by simp)⟩|exact ⟨c2.keep (by simp [*]) (by simp),c2.keep (by simp [*]) (by simp)⟩|simp [*])
  (first
   |(go_at_call 116;refine (gbit_any _ _).mono ?_;rintro e w' ⟨rfl,rfl⟩)
   |(go_at_call 181;refine (dwait_any _ _ _ _ _ _ ?_).mono ?_;exact (by first |exact o0|exact o0.chg C1|(show (0:Nat)<_;simpa using o0.lt));rintro e w' ⟨A2,n2,rfl,hs2,hA2,c2⟩;(have hA3:∀a,A2=some a→w1.heap.size≤a.block:=(by simpa using hA2));(first |(have rR2:=c2.keep rR (by simp))|(have rR2:=c2.keep (x:=.cells (ec (x)) 129 (0,0)) (k:=w.heap.size+2) (by simp [rR]) (by simp)))))
 all_goals
  go_wp2_with fail
  refine bodyPost_ret (v:=.tuple #[.agg (ec ((waitE x c m (bitM x.ow) 13).1)),.slice A2 (waitE x c m (bitM x.ow) 13).2.length n2]) ?_ (by rfl) ?_
  ·exact results_en2 (by rfl) _ _ (w.heap.size+2) _ (0,0) (by rfl) (by first |exact rR2|(simp [rR2];done)) _ (by rfl)
  refine ⟨A2,n2,rfl,?_,fun a ha=>Nat.le_trans C1.size (hA3 a ha),by (repeat' (first |exact Chg.refl _ _|assumption|exact Chg.refl [] _|refine Chg.drew ?_|refine Chg.drewN ?_ _|refine Chg.alloc ?_ _|refine Chg.putRow ?_ _ _ _ (.inr (by first |exact Nat.le_refl _|omega|simp))|refine Chg.setCell ?_ _ _ _ (.inr (by first |exact Nat.le_refl _|omega|simp))|refine Chg.trans ?_ c2))⟩
  first
   |exact hs2
   |exact hs2.chg ((Chg.refl [w.heap.size+2] _).putRow _ _ _ (.inl (by simp))) (by intro a ha;have:=hA3 a ha;have:=oR.lt;simp;omega)
   |exact hs2.chg c3 (by simp)
   |exact (hs2.chg c3 (by simp)).chg ((Chg.refl [w.heap.size+2] _).putRow _ _ _ (.inl (by simp))) (by intro a ha;have:=hA3 a ha;have:=oR.lt;simp;omega)
theorem dwipe_any (x:En) (c:Int) (m:Ms) (w:World) (h0:Old w 0):Calls Tryz.prog 152 #[.agg (ec x),.int .i64 c,.agg (msc m)] w (EnSds w (wipeE x c m)):=by
 rw [show wipeE x c m=waitE x c m (holders x) 12 from rfl]
 go_enter Tryz.func152,Tryz.ntmps152
 try dsimp only [List.append]
 go_wp2_with fail
 refine gen_world3 (w:=w) (b1:=w.heap.size) (x1:=.cells (ec (x)) 129 (0,0)) (b2:=w.heap.size+1) (x2:=.cells (msc m) 50 (0,0)) (b3:=w.heap.size+2) (x3:=.cells (ec (enZ)) 129 (0,0)) (by (repeat' (first |exact Chg.refl _ _|assumption|exact Chg.refl [] _|refine Chg.drew ?_|refine Chg.drewN ?_ _|refine Chg.alloc ?_ _|refine Chg.putRow ?_ _ _ _ (.inr (by first |exact Nat.le_refl _|omega|simp))|refine Chg.setCell ?_ _ _ _ (.inr (by first |exact Nat.le_refl _|omega|simp))))) (by simp [*]) (by simp [*]) (by simp [*]) fun w1 C1 rE rM rR=>?_
 have oE:=old rE
 have oM:=old rM
 have oR:=old rR
 have o0:=h0.chg C1
 go_region_held3 (fun w'=>w'.heap[w.heap.size]? =some (.cells (ec (x)) 129 (0,0))∧w'.heap[w.heap.size+1]? =some (.cells (msc m) 50 (0,0))) (first |exact ⟨rE,rM⟩|exact ⟨c2.keep rE (by simp),c2.keep rM (by simp)⟩|exact ⟨c3.keep rE (by simp),c3.keep rM (by simp)⟩|exact ⟨c2.keep (by simp [*]) (by simp),c2.keep (by simp [*]) (by simp)⟩|exact ⟨c3.keep (by simp [*]) (by simp),c3.keep (by simp [*]) (by simp)⟩|simp [*])
  (first
   |(go_at_call 182;refine (dholders_any _ _).mono ?_;rintro e w' ⟨rfl,c3⟩;(have rR3:=c3.keep rR (by simp));(have o3:=Old.chg (b:=0) (by first |exact o0|exact o0.chg C1|(show (0:Nat)<_;simpa using o0.lt)) c3);(have z3:=c3.size))
   |(go_at_call 181;refine (dwait_any _ _ _ _ _ _ ?_).mono ?_;exact o3;rintro e w' ⟨A2,n2,rfl,hs2,hA2,c2⟩;(have hA3:∀a,A2=some a→w1.heap.size≤a.block:=(fun a ha=>Nat.le_trans z3 (hA2 a ha)));have rR2:=c2.keep rR3 (by simp)))
 all_goals
  go_wp2_with fail
  refine bodyPost_ret (v:=.tuple #[.agg (ec ((waitE x c m (holders x) 12).1)),.slice A2 (waitE x c m (holders x) 12).2.length n2]) ?_ (by rfl) ?_
  ·exact results_en2 (by rfl) _ _ (w.heap.size+2) _ (0,0) (by rfl) (by first |exact rR2|(simp [rR2];done)) _ (by rfl)
  refine ⟨A2,n2,rfl,?_,fun a ha=>Nat.le_trans C1.size (hA3 a ha),by (repeat' (first |exact Chg.refl _ _|assumption|exact Chg.refl [] _|refine Chg.drew ?_|refine Chg.drewN ?_ _|refine Chg.alloc ?_ _|refine Chg.putRow ?_ _ _ _ (.inr (by first |exact Nat.le_refl _|omega|simp))|refine Chg.setCell ?_ _ _ _ (.inr (by first |exact Nat.le_refl _|omega|simp))|refine Chg.trans ?_ c2|refine Chg.trans ?_ c3))⟩
  first
   |exact hs2
   |exact hs2.chg ((Chg.refl [w.heap.size+2] _).putRow _ _ _ (.inl (by simp))) (by intro a ha;have:=hA3 a ha;have:=oR.lt;simp;omega)
   |exact hs2.chg c3 (by simp)
   |exact (hs2.chg c3 (by simp)).chg ((Chg.refl [w.heap.size+2] _).putRow _ _ _ (.inl (by simp))) (by intro a ha;have:=hA3 a ha;have:=oR.lt;simp;omega)
theorem dgetM_any (x:En) (c:Int) (m:Ms) (w:World) (h0:Old w 0):Calls Tryz.prog 149 #[.agg (ec x),.int .i64 c,.agg (msc m)] w (EnSds w (getME x c m)):=by
 by_cases h:(holders x&&& ~~~(bitM c))=0#8
 ·have e1:getME x c m=ownedE x c 10 m.li:=by unfold getME;rw [if_pos h]
  have t1:((holders x&&& ~~~(bitM c))==0#8)=true:=by simpa using h
  rw [e1]
  clear e1 h
  go_enter Tryz.func149,Tryz.ntmps149
  try dsimp only [List.append]
  go_wp2_with fail
  refine gen_calls3 (w:=w) (b1:=w.heap.size) (x1:=.cells (ec (x)) 129 (0,0)) (b2:=w.heap.size+1) (x2:=.cells (msc m) 50 (0,0)) (b3:=w.heap.size+2) (x3:=.cells (ec (enZ)) 129 (0,0)) (by (repeat' (first |exact Chg.refl _ _|assumption|exact Chg.refl [] _|refine Chg.drew ?_|refine Chg.drewN ?_ _|refine Chg.alloc ?_ _|refine Chg.putRow ?_ _ _ _ (.inr (by first |exact Nat.le_refl _|omega|simp))|refine Chg.setCell ?_ _ _ _ (.inr (by first |exact Nat.le_refl _|omega|simp))))) (by simp [*]) (by simp [*]) (by simp [*]) fun w1 C1 rE rM rR=>?_
  have oE:=old rE
  have oM:=old rM
  have oR:=old rR
  have o0:=h0.chg C1
  refine (dholders_any x w1).mono ?_
  rintro e w3 ⟨rfl,c3⟩
  have rE3:=c3.keep rE (by simp)
  have rM3:=c3.keep rM (by simp)
  have rR3:=c3.keep rR (by simp)
  have C3:=C1.trans c3
  have o3:=h0.chg C3
  clear rE rM rR oE oM oR o0 C1 c3
  have oE3:=old rE3
  have oM3:=old rM3
  have oR3:=old rR3
  go_wp2_with (go_at_call 116;refine (gbit_any _ _).mono ?_;rintro e w' ⟨rfl,rfl⟩)
  refine (downed_any x c 10 m.li _ (by exact o3)).mono ?_
  rintro e w2 ⟨A2,n2,rfl,hs2,hA3,c2⟩
  have rR2:=c2.keep rR3 (by simp)
  have oR2:=old rR2
  go_wp2_with fail
  refine bodyPost_ret (v:=.tuple #[.agg (ec ((ownedE x c 10 m.li).1)),.slice A2 (ownedE x c 10 m.li).2.length n2]) ?_ (by rfl) ?_
  ·exact results_en2 (by rfl) _ _ (w.heap.size+2) _ (0,0) (by rfl) (by simp [rR2];done) _ (by rfl)
  refine ⟨A2,n2,rfl,?_,fun a ha=>Nat.le_trans C3.size (hA3 a ha),by (repeat' (first |exact Chg.refl _ _|assumption|exact Chg.refl [] _|refine Chg.drew ?_|refine Chg.drewN ?_ _|refine Chg.alloc ?_ _|refine Chg.putRow ?_ _ _ _ (.inr (by first |exact Nat.le_refl _|omega|simp))|refine Chg.setCell ?_ _ _ _ (.inr (by first |exact Nat.le_refl _|omega|simp))|refine Chg.trans ?_ c2))⟩
  exact hs2.chg ((Chg.refl [w.heap.size+2] _).putRow _ _ _ (.inl (by simp))) (by intro a ha;have:=hA3 a ha;have:=oR3.lt;simp;omega)
 ·have e1:getME x c m=waitE x c m (holders x&&& ~~~(bitM c)) 12:=by unfold getME;rw [if_neg h]
  have t1:((holders x&&& ~~~(bitM c))==0#8)=false:=by simpa using h
  rw [e1]
  clear e1 h
  go_enter Tryz.func149,Tryz.ntmps149
  try dsimp only [List.append]
  go_wp2_with fail
  refine gen_calls3 (w:=w) (b1:=w.heap.size) (x1:=.cells (ec (x)) 129 (0,0)) (b2:=w.heap.size+1) (x2:=.cells (msc m) 50 (0,0)) (b3:=w.heap.size+2) (x3:=.cells (ec (enZ)) 129 (0,0)) (by (repeat' (first |exact Chg.refl _ _|assumption|exact Chg.refl [] _|refine Chg.drew ?_|refine Chg.drewN ?_ _|refine Chg.alloc ?_ _|refine Chg.putRow ?_ _ _ _ (.inr (by first |exact Nat.le_refl _|omega|simp))|refine Chg.setCell ?_ _ _ _ (.inr (by first |exact Nat.le_refl _|omega|simp))))) (by simp [*]) (by simp [*]) (by simp [*]) fun w1 C1 rE rM rR=>?_
  have oE:=old rE
  have oM:=old rM
  have oR:=old rR
  have o0:=h0.chg C1
  refine (dholders_any x w1).mono ?_
  rintro e w3 ⟨rfl,c3⟩
  have rE3:=c3.keep rE (by simp)
  have rM3:=c3.keep rM (by simp)
  have rR3:=c3.keep rR (by simp)
  have C3:=C1.trans c3
  have o3:=h0.chg C3
  clear rE rM rR oE oM oR o0 C1 c3
  have oE3:=old rE3
  have oM3:=old rM3
  have oR3:=old rR3
  go_wp2_with (go_at_call 116;refine (gbit_any _ _).mono ?_;rintro e w' ⟨rfl,rfl⟩)
  refine (dwait_any x c m (holders x&&& ~~~(bitM c)) 12 _ (by exact o3)).mono ?_
  rintro e w2 ⟨A2,n2,rfl,hs2,hA3,c2⟩
  have rR2:=c2.keep rR3 (by simp)
  have oR2:=old rR2
  go_wp2_with fail
  refine bodyPost_ret (v:=.tuple #[.agg (ec ((waitE x c m (holders x&&& ~~~(bitM c)) 12).1)),.slice A2 (waitE x c m (holders x&&& ~~~(bitM c)) 12).2.length n2]) ?_ (by rfl) ?_
  ·exact results_en2 (by rfl) _ _ (w.heap.size+2) _ (0,0) (by rfl) (by simp [rR2];done) _ (by rfl)
  refine ⟨A2,n2,rfl,?_,fun a ha=>Nat.le_trans C3.size (hA3 a ha),by (repeat' (first |exact Chg.refl _ _|assumption|exact Chg.refl [] _|refine Chg.drew ?_|refine Chg.drewN ?_ _|refine Chg.alloc ?_ _|refine Chg.putRow ?_ _ _ _ (.inr (by first |exact Nat.le_refl _|omega|simp))|refine Chg.setCell ?_ _ _ _ (.inr (by first |exact Nat.le_refl _|omega|simp))|refine Chg.trans ?_ c2))⟩
  exact hs2.chg ((Chg.refl [w.heap.size+2] _).putRow _ _ _ (.inl (by simp))) (by intro a ha;have:=hA3 a ha;have:=oR3.lt;simp;omega)
theorem dput_any (x:En) (c:Int) (m:Ms) (w:World) (h0:Old w 0):Calls Tryz.prog 150 #[.agg (ec x),.int .i64 c,.agg (msc m)] w (EnSds w (putE x c m)):=by
 by_cases h:x.ow=c
 ·have e1:putE x c m=(withoutE (writtenE x m) c,tellL (bitM c) (ms4 11 m.li false false)):=by unfold putE;rw [if_pos h]
  have t1:(x.ow==c)=true:=by simpa using h
  rw [e1]
  clear e1 h
  go_enter Tryz.func150,Tryz.ntmps150
  try dsimp only [List.append]
  go_wp2_with fail
  refine gen_calls3 (w:=w) (b1:=w.heap.size) (x1:=.cells (ec (x)) 129 (0,0)) (b2:=w.heap.size+1) (x2:=.cells (msc m) 50 (0,0)) (b3:=w.heap.size+2) (x3:=.cells (ec (enZ)) 129 (0,0)) (by (repeat' (first |exact Chg.refl _ _|assumption|exact Chg.refl [] _|refine Chg.drew ?_|refine Chg.drewN ?_ _|refine Chg.alloc ?_ _|refine Chg.putRow ?_ _ _ _ (.inr (by first |exact Nat.le_refl _|omega|simp))|refine Chg.setCell ?_ _ _ _ (.inr (by first |exact Nat.le_refl _|omega|simp))))) (by simp [*]) (by simp [*]) (by simp [*]) fun w1 C1 rE rM rR=>?_
  have oE:=old rE
  have oM:=old rM
  have oR:=old rR
  refine (dwritten_any x m w1).mono ?_
  rintro e w3 ⟨rfl,c3⟩
  have rE3:=c3.keep rE (by simp)
  have rM3:=c3.keep rM (by simp)
  have rR3:=c3.keep rR (by simp)
  have C3:=C1.trans c3
  clear rE rM rR oE oM oR C1 c3
  go_wp2_with fail
  refine gen_world3 (w:=w) (b1:=w.heap.size) (x1:=.cells (ec (writtenE x m)) 129 (0,0)) (b2:=w.heap.size+1) (x2:=.cells (msc m) 50 (0,0)) (b3:=w.heap.size+2) (x3:=.cells (ec (enZ)) 129 (0,0)) (by (repeat' (first |exact Chg.refl _ _|assumption|exact Chg.refl [] _|refine Chg.drew ?_|refine Chg.drewN ?_ _|refine Chg.alloc ?_ _|refine Chg.putRow ?_ _ _ _ (.inr (by first |exact Nat.le_refl _|omega|simp))|refine Chg.setCell ?_ _ _ _ (.inr (by first |exact Nat.le_refl _|omega|simp))))) (by simp [*]) (by simp [*]) (by simp [*]) fun w1 C1 rE rM rR=>?_
  have oE:=old rE
  have oM:=old rM
  have oR:=old rR
  have o0:=h0.chg C1
  go_region_held3 (fun w'=>w'.heap[w.heap.size]? =some (.cells (ec (writtenE x m)) 129 (0,0))∧w'.heap[w.heap.size+1]? =some (.cells (msc m) 50 (0,0))) (first |exact ⟨rE,rM⟩|exact ⟨c2.keep rE (by simp),c2.keep rM (by simp)⟩|exact ⟨c3.keep rE (by simp),c3.keep rM (by simp)⟩|exact ⟨c2.keep (by simp [*]) (by simp),c2.keep (by simp [*]) (by simp)⟩|exact ⟨c3.keep (by simp [*]) (by simp),c3.keep (by simp [*]) (by simp)⟩|simp [*])
   (first
    |(go_at_call 116;refine (gbit_any _ _).mono ?_;rintro e w' ⟨rfl,rfl⟩)
    |(go_at_call 160;refine (dwithout_any _ _ _).mono ?_;rintro e w' ⟨rfl,c3⟩;(first |(have rR3:=c3.keep rR (by simp))|(have rR3:=c3.keep rR2 (by simp))))
    |(go_at_call 115;refine (dtell4_any _ _ _ _ _ _ (by first |exact o0|exact Old.chg (b:=0) (by exact o0) c3|exact Old.chg (b:=0) o0 c3|(show (0:Nat)<_;have:=o0.lt;have:=c3.size;simp at *;omega))).mono ?_;rintro e w' ⟨A2,n2,rfl,hs2,hA2,c2⟩;(have hA3:∀a,A2=some a→w1.heap.size≤a.block:=(by first |exact hA2|exact (fun a ha=>Nat.le_trans c3.size (hA2 a ha))|(intro a ha;have:=hA2 a ha;have:=c3.size;simp at *;omega)));(first |(have rR2:=c2.keep rR (by simp))|(have rR2:=c2.keep rR3 (by simp))|(have rR2:=c2.keep (x:=.cells (ec (withoutE (writtenE x m) c)) 129 (0,0)) (k:=w.heap.size+2) (by simp [rR3]) (by simp)))))
  all_goals
   go_wp2_with fail
   refine bodyPost_ret (v:=.tuple #[.agg (ec (withoutE (writtenE x m) c)),.slice A2 (tellL (bitM c) (ms4 11 m.li false false)).length n2]) ?_ (by rfl) ?_
   ·exact results_en2 (by rfl) _ _ (w.heap.size+2) _ (0,0) (by rfl) (by first |exact rR2|(simp [rR2];done)|(simp [rR3];done)) _ (by rfl)
   refine ⟨A2,n2,rfl,?_,fun a ha=>Nat.le_trans C1.size (hA3 a ha),by (repeat' (first |exact Chg.refl _ _|assumption|exact Chg.refl [] _|refine Chg.drew ?_|refine Chg.drewN ?_ _|refine Chg.alloc ?_ _|refine Chg.putRow ?_ _ _ _ (.inr (by first |exact Nat.le_refl _|omega|simp))|refine Chg.setCell ?_ _ _ _ (.inr (by first |exact Nat.le_refl _|omega|simp))|refine Chg.trans ?_ c2|refine Chg.trans ?_ c3))⟩
   first
    |exact hs2
    |exact hs2.chg ((Chg.refl [w.heap.size+2] _).putRow _ _ _ (.inl (by simp))) (by intro a ha;have:=hA3 a ha;have:=oR.lt;simp;omega)
    |exact hs2.chg c3 (by simp)
    |exact (hs2.chg c3 (by simp)).chg ((Chg.refl [w.heap.size+2] _).putRow _ _ _ (.inl (by simp))) (by intro a ha;have:=hA3 a ha;have:=oR.lt;simp;omega)
 ·have e1:putE x c m=(withoutE x c,tellL (bitM c) (ms4 11 m.li false false)):=by unfold putE;rw [if_neg h]
  have t1:(x.ow==c)=false:=by simpa using h
  rw [e1]
  clear e1 h
  go_enter Tryz.func150,Tryz.ntmps150
  try dsimp only [List.append]
  go_wp2_with fail
  refine gen_world3 (w:=w) (b1:=w.heap.size) (x1:=.cells (ec (x)) 129 (0,0)) (b2:=w.heap.size+1) (x2:=.cells (msc m) 50 (0,0)) (b3:=w.heap.size+2) (x3:=.cells (ec (enZ)) 129 (0,0)) (by (repeat' (first |exact Chg.refl _ _|assumption|exact Chg.refl [] _|refine Chg.drew ?_|refine Chg.drewN ?_ _|refine Chg.alloc ?_ _|refine Chg.putRow ?_ _ _ _ (.inr (by first |exact Nat.le_refl _|omega|simp))|refine Chg.setCell ?_ _ _ _ (.inr (by first |exact Nat.le_refl _|omega|simp))))) (by simp [*]) (by simp [*]) (by simp [*]) fun w1 C1 rE rM rR=>?_
  have oE:=old rE
  have oM:=old rM
  have oR:=old rR
  have o0:=h0.chg C1
  go_region_held3 (fun w'=>w'.heap[w.heap.size]? =some (.cells (ec (x)) 129 (0,0))∧w'.heap[w.heap.size+1]? =some (.cells (msc m) 50 (0,0))) (first |exact ⟨rE,rM⟩|exact ⟨c2.keep rE (by simp),c2.keep rM (by simp)⟩|exact ⟨c3.keep rE (by simp),c3.keep rM (by simp)⟩|exact ⟨c2.keep (by simp [*]) (by simp),c2.keep (by simp [*]) (by simp)⟩|exact ⟨c3.keep (by simp [*]) (by simp),c3.keep (by simp [*]) (by simp)⟩|simp [*])
   (first
    |(go_at_call 116;refine (gbit_any _ _).mono ?_;rintro e w' ⟨rfl,rfl⟩)
    |(go_at_call 160;refine (dwithout_any _ _ _).mono ?_;rintro e w' ⟨rfl,c3⟩;(first |(have rR3:=c3.keep rR (by simp))|(have rR3:=c3.keep rR2 (by simp))))
    |(go_at_call 115;refine (dtell4_any _ _ _ _ _ _ (by first |exact o0|exact Old.chg (b:=0) (by exact o0) c3|exact Old.chg (b:=0) o0 c3|(show (0:Nat)<_;have:=o0.lt;have:=c3.size;simp at *;omega))).mono ?_;rintro e w' ⟨A2,n2,rfl,hs2,hA2,c2⟩;(have hA3:∀a,A2=some a→w1.heap.size≤a.block:=(by first |exact hA2|exact (fun a ha=>Nat.le_trans c3.size (hA2 a ha))|(intro a ha;have:=hA2 a ha;have:=c3.size;simp at *;omega)));(first |(have rR2:=c2.keep rR (by simp))|(have rR2:=c2.keep rR3 (by simp))|(have rR2:=c2.keep (x:=.cells (ec (withoutE (x) c)) 129 (0,0)) (k:=w.heap.size+2) (by simp [rR3]) (by simp)))))
  all_goals
   go_wp2_with fail
   refine bodyPost_ret (v:=.tuple #[.agg (ec (withoutE (x) c)),.slice A2 (tellL (bitM c) (ms4 11 m.li false false)).length n2]) ?_ (by rfl) ?_
   ·exact results_en2 (by rfl) _ _ (w.heap.size+2) _ (0,0) (by rfl) (by first |exact rR2|(simp [rR2];done)|(simp [rR3];done)) _ (by rfl)
   refine ⟨A2,n2,rfl,?_,fun a ha=>Nat.le_trans C1.size (hA3 a ha),by (repeat' (first |exact Chg.refl _ _|assumption|exact Chg.refl [] _|refine Chg.drew ?_|refine Chg.drewN ?_ _|refine Chg.alloc ?_ _|refine Chg.putRow ?_ _ _ _ (.inr (by first |exact Nat.le_refl _|omega|simp))|refine Chg.setCell ?_ _ _ _ (.inr (by first |exact Nat.le_refl _|omega|simp))|refine Chg.trans ?_ c2|refine Chg.trans ?_ c3))⟩
   first
    |exact hs2
    |exact hs2.chg ((Chg.refl [w.heap.size+2] _).putRow _ _ _ (.inl (by simp))) (by intro a ha;have:=hA3 a ha;have:=oR.lt;simp;omega)
    |exact hs2.chg c3 (by simp)
    |exact (hs2.chg c3 (by simp)).chg ((Chg.refl [w.heap.size+2] _).putRow _ _ _ (.inl (by simp))) (by intro a ha;have:=hA3 a ha;have:=oR.lt;simp;omega)
end
end Go.Proofs.YtcjoinhngdfdmaaGreatDoor
