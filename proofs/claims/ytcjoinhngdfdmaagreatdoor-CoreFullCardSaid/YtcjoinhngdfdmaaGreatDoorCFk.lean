/- What a statement of layer 13 needs further: by parts. No condition. -/
import Derived.Test.YtcjoinhngdfdmaaGreatDoorCFj
section
namespace Go.Proofs.YtcjoinhngdfdmaaGreatDoor
open Go.RowKit
set_option linter.unusedVariables false
set_option maxHeartbeats 1000000
def askedK (kd:Int):Int:=if kd=12 then 4 else 5
def drainC (c:Cg) (S:Mst) (Q:Co):Did13:=
 match Q.es with
 |[]=>⟨S,Q,[]⟩
 |e::rest=>
  if e.kd=9 then
   if (storeM c S Q.id e.li e.wo e.va).2.hit then ⟨(storeM c S Q.id e.li e.wo e.va).1,{Q with es:=rest},[evC Q 3 e.li e.wo e.va]⟩ else ⟨(storeM c S Q.id e.li e.wo e.va).1,Q,[]⟩
  else if e.sn then (if Q.wt=0 then ⟨S,{Q with es:=rest},[]⟩ else ⟨S,Q,[]⟩)
  else if 16≤Q.wt then ⟨S,Q,[]⟩
  else if (flushM c S Q.id e.li (askedK e.kd)).2.e=0 then ⟨(flushM c S Q.id e.li (askedK e.kd)).1,{Q with es:=(if e.kd=14 then sent e::rest else rest),wt:=Q.wt+1},[evC Q 13 e.li 0 0]⟩
  else ⟨(flushM c S Q.id e.li (askedK e.kd)).1,Q,[]⟩
end Go.Proofs.YtcjoinhngdfdmaaGreatDoor
end
section
namespace Go.Proofs.YtcjoinhngdfdmaaGreatDoor
open Go.RowKit
set_option linter.unusedVariables false
set_option maxHeartbeats 1000000
attribute [local go_sem ↓] append_appS copy_copS clear_clrS make_mkS cell_row frozen_row loadSe storeSe loadBuf storeBuf heap_drew heap_drewN heap_alloc heap_past heap_setCell heap_putRow sec_kd sec_li sec_wo sec_va sec_sn bfc_room bfc_first bfc_count
attribute [local go_sem] rowCell_some rowFrozen_some rowHas_some rowIn_some rowPart_full rowPart_lit rowPut_full rowPut_lit rowSet_some size_putRow wideSe wideBuf run_loadS run_storeS run_appS run_copS run_clrS run_mkS loadW_at storeW_at fit_all fit_le fit_pl one_int one_bool one_pointer one_slice allOne_list putRow_new ne_size1 ne_size2 ne_size3 ne_size4 sec_size sec_one sec_lit sec_z sec_ne sec_set0 sec_set1 sec_set2 sec_set3 sec_set4 seZ_kd seZ_li seZ_wo seZ_va seZ_sn fold_sec bfc_size bfc_one bfc_setFirst bfc_setCount bfc_in bfc_has bfc_part bfc_put bfc_sent
attribute [local simp ↓] heap_drew heap_drewN heap_alloc heap_past heap_setCell heap_putRow
attribute [local simp] rowCell_some rowFrozen_some rowHas_some rowIn_some rowPart_full rowPart_lit rowPut_full rowPut_lit rowSet_some size_putRow fit_all fit_pl putRow_new ne_size1 ne_size2 ne_size3 ne_size4 sec_size bfc_size bfc_setFirst bfc_setCount bfc_has bfc_put bfc_sent
attribute [local go_sem ↓] zbuf
attribute [local go_sem] bfc_setRoom bfc_ne
theorem results_se2 {fn:Func} {p t:Tmp} (h:fn.results=#[.cell p 112,.tmp t]) (tmps:Array Value) (w:World) (b:Nat) (s:Se) (fr:Nat×Nat)
 (hp:tmps.getD p undef=.pointer (some ⟨b,0,none⟩)) (hb:w.heap[b]? =some (.cells (sec s) 112 fr)) (x:Value) (hx:tmps.getD t undef=x):
 (results fn tmps).run Tryz.prog w=.ok (.tuple #[.agg (sec s),x]) w:=by
 subst hx
 have hp':tmps[p]?.getD undef=.pointer (some ⟨b,0,none⟩):=by simpa using hp
 have:=run_loadVar_row (P:=Tryz.prog) w b 112 112 (sec s) fr _ hb Tryz.underlying112 rfl (by rw [sec_size];kernel_rfl)
 simp [results,h,hp',asAddr,this]
theorem shead_ok {w:World} {q room:Nat} {es:List Se} (hb:Buf w q room es):Calls Tryz.prog 49 #[.pointer (some ⟨q,0,none⟩)] w fun e w'=>e=.returned (.tuple #[.agg (sec (hdE es)),.bool (hdB es)])∧Chg [] w w':=by
 have HB:=Lib.hid (hb.keep ((Chg.refl [] w).alloc (.cells (sec seZ) 112)) (by simp))
 have oq:=hb.oldq
 clear hb
 rcases es with _|⟨x,es⟩
 ·go_enter Tryz.func49,Tryz.ntmps49
  go_wp2_with (go_at_call 76;refine (slen_ok HB.out).mono ?_;rintro e w' ⟨rfl,rfl⟩)
  refine bodyPost_ret (v:=.tuple #[.agg (sec seZ),.bool false]) ?_ (by rfl) ?_
  ·exact results_se2 (by rfl) _ _ w.heap.size seZ (0,0) (by rfl) (by simp [*];try rfl) _ (by rfl)
  exact ⟨rfl,(Chg.refl _ _).alloc _⟩
 ·have t0:(((x::es).length:Int)==0)=false:=by simp;omega
  generalize hes:x::es=ys at HB t0
  have HE:=Lib.hid (show ys[0]? =some x by rw [←hes];rfl)
  have hx:(w.alloc (.cells (sec seZ) 112)).heap[w.heap.size]? =some (.cells (sec seZ) 112 (0,0)):=by simp
  have HC:=Lib.hid ((Chg.refl [] w).alloc (.cells (sec seZ) 112))
  rw [show hdE ys=x by rw [←hes];rfl,show hdB ys=true by rw [←hes];rfl]
  clear hes
  go_enter Tryz.func49,Tryz.ntmps49
  go_wp2_with fail
  generalize hp:w.heap.size=p at hx ⊢
  have HP:=Lib.hid hp
  clear hp
  generalize w.alloc (.cells (sec seZ) 112)=w1 at HB hx HC ⊢
  refine (slen_ok HB.out).mono ?_
  rintro e w' ⟨rfl,rfl⟩
  go_wp2_with fail
  obtain ⟨r,f,hq,hf,hall,_⟩:=HB.out
  refine (sat_c (n:=0) hf (by omega) hq).mono ?_
  rintro e w2 ⟨rfl,c2⟩
  have hg:=hall 0 x HE.out
  have hq2:=c2.keep hq (by simp)
  have hx2:=c2.keep hx (by simp)
  have HC2:=Lib.hid (HC.out.trans c2)
  have oq2:=old hq2
  have ox2:=old hx2
  have hpart:=bfc_part room r f ys.length 157 (0,0) 0
  rw [hg] at hpart
  clear hq hx c2 hall hf hg
  go_wp2_with fail
  refine bodyPost_ret (v:=.tuple #[.agg (sec x),.bool true]) ?_ (by rfl) ?_
  ·exact results_se2 (by rfl) _ _ p x (0,0) (by rfl) (by simp [*];try rfl) _ (by rfl)
  exact ⟨rfl,HC2.out.putRow _ _ _ (.inr (by have:=HP.out;omega))⟩
end Go.Proofs.YtcjoinhngdfdmaaGreatDoor
end
section
namespace Go.Proofs.YtcjoinhngdfdmaaGreatDoor
open Go.RowKit
set_option linter.unusedVariables false
set_option maxHeartbeats 1000000
attribute [local go_sem ↓] append_appS copy_copS clear_clrS make_mkS cell_row frozen_row loadSe storeSe loadBuf storeBuf heap_drew heap_drewN heap_alloc heap_past heap_setCell heap_putRow sec_kd sec_li sec_wo sec_va sec_sn bfc_room bfc_first bfc_count
attribute [local go_sem] rowCell_some rowFrozen_some rowHas_some rowIn_some rowPart_full rowPart_lit rowPut_full rowPut_lit rowSet_some size_putRow wideSe wideBuf run_loadS run_storeS run_appS run_copS run_clrS run_mkS loadW_at storeW_at fit_all fit_le fit_pl one_int one_bool one_pointer one_slice allOne_list putRow_new ne_size1 ne_size2 ne_size3 ne_size4 sec_size sec_one sec_lit sec_z sec_ne sec_set0 sec_set1 sec_set2 sec_set3 sec_set4 seZ_kd seZ_li seZ_wo seZ_va seZ_sn fold_sec bfc_size bfc_one bfc_setFirst bfc_setCount bfc_in bfc_has bfc_part bfc_put bfc_sent
attribute [local simp ↓] heap_drew heap_drewN heap_alloc heap_past heap_setCell heap_putRow
attribute [local simp] rowCell_some rowFrozen_some rowHas_some rowIn_some rowPart_full rowPart_lit rowPut_full rowPut_lit rowSet_some size_putRow fit_all fit_pl putRow_new ne_size1 ne_size2 ne_size3 ne_size4 sec_size bfc_size bfc_setFirst bfc_setCount bfc_has bfc_put bfc_sent
attribute [local go_sem ↓] zbuf
attribute [local go_sem] bfc_setRoom bfc_ne
theorem ring_pop {r:Ring} {f:Nat} {x:Se} {es:List Se} (h:∀n e,(x::es)[n]? =some e→r.get (pl f n)=e) (hl:(x::es).length≤16):∀n e,es[n]? =some e→(r.put (pl f 0) seZ).get (pl (pl f 1) n)=e:=by
 intro n e hn
 have h1:=(List.getElem?_eq_some_iff.1 hn).1
 simp only [List.length_cons] at hl
 rw [pl_next,Ring.put_other _ (pl_ne (by omega) (by omega))]
 exact h (n+1) e (by simpa using hn)
theorem spop_ok {w:World} {q room:Nat} {es:List Se} (hb:Buf w q room es):Calls Tryz.prog 89 #[.pointer (some ⟨q,0,none⟩)] w (BufTo w q room es.tail (.tuple #[.agg (sec (hdE es)),.bool (hdB es)])):=by
 have HB:=Lib.hid (hb.keep ((Chg.refl [] w).alloc (.cells (sec seZ) 112)) (by simp))
 have oq:=hb.oldq
 clear hb
 have hx:(w.alloc (.cells (sec seZ) 112)).heap[w.heap.size]? =some (.cells (sec seZ) 112 (0,0)):=by simp
 have HC:=Lib.hid ((Chg.refl [] w).alloc (.cells (sec seZ) 112))
 have HPQ:=Lib.hid (show w.heap.size≠q from by have:=oq.lt;omega)
 go_enter Tryz.func89,Tryz.ntmps89
 go_wp2_with fail
 generalize hp:w.heap.size=p at hx HPQ ⊢
 have HP:=Lib.hid hp
 clear hp
 generalize w.alloc (.cells (sec seZ) 112)=w1 at HB hx HC ⊢
 refine (shead_ok HB.out).mono ?_
 rintro e w2 ⟨rfl,c2⟩
 have hx2:=c2.keep hx (by simp)
 have ox2:=old hx2
 have HC2:=Lib.hid (HC.out.trans c2)
 have HB2:=Lib.hid (HB.out.keep c2 (by simp))
 have oq2:=HB2.out.oldq
 clear hx c2 HB
 rcases es with _|⟨x,es⟩
 ·rw [show hdE []=seZ from rfl,show hdB []=false from rfl]
  go_wp2_with fail
  refine bodyPost_ret (v:=.tuple #[.agg (sec seZ),.bool false]) ?_ (by rfl) ?_
  ·exact results_se2 (by rfl) _ _ p seZ (0,0) (by rfl) (by simp [*];try rfl) _ (by rfl)
  have hc:=((Chg.refl [] w2).alloc (.cells (sec seZ) 112))
  have hc2:Chg [p] (w2.alloc (.cells (sec seZ) 112)) (putRow (w2.alloc (.cells (sec seZ) 112)) p 0 (sec seZ)):=(Chg.refl _ _).putRow _ _ _ (.inl (by simp))
  refine ⟨rfl,(((HC2.out.trans hc).mono (l':=[q]) (by simp)).putRow _ _ _ (.inr (by have:=HP.out;omega))),(HB2.out.keep hc (by simp)).keep hc2 (by simpa using Ne.symm HPQ.out)⟩
 ·rw [show hdE (x::es)=x from rfl,show hdB (x::es)=true from rfl,show (x::es).tail=es from rfl]
  have hy:(w2.alloc (.cells (sec x) 112)).heap[w2.heap.size]? =some (.cells (sec x) 112 (0,0)):=by simp
  have c3:=(Chg.refl [] w2).alloc (.cells (sec x) 112)
  have hx3:=c3.keep hx2 (by simp)
  have HB3:=Lib.hid (HB2.out.keep c3 (by simp))
  have HC3:=Lib.hid (HC2.out.trans c3)
  have HPY:=Lib.hid (show w2.heap.size≠p from by have:=ox2.lt;omega)
  have HQY:=Lib.hid (show w2.heap.size≠q from by have:=oq2.lt;omega)
  clear hx2 c3 HB2 HC2
  go_wp2_with fail
  generalize w2.heap.size=y at hy HPY HQY ⊢
  generalize w2.alloc (.cells (sec x) 112)=w3 at hx3 hy HB3 HC3 ⊢
  obtain ⟨r,f,hq,hf,hall,hle⟩:=HB3.out
  have HF:=Lib.hid hf
  have HA:=Lib.hid (ring_pop hall (by omega))
  have HL:=Lib.hid hle
  clear hf hall hle
  refine (sat_c (n:=0) HF.out (by omega) hq).mono ?_
  rintro e w4 ⟨rfl,c4⟩
  have hq4:=c4.keep hq (by simp)
  have hx4:=c4.keep hx3 (by simp)
  have hy4:=c4.keep hy (by simp)
  have HC4:=Lib.hid (HC3.out.trans c4)
  have oq4:=old hq4
  have ox4:=old hx4
  have oy4:=old hy4
  clear hq hx3 hy c4
  go_wp2_with fail
  have c5:Chg [q] w4 (putRow w4 q (1+pl f 0*5) (sec seZ)):=(Chg.refl [q] w4).putRow _ _ _ (.inl (by simp))
  have hq5:(putRow w4 q (1+pl f 0*5) (sec seZ)).heap[q]? =some (.cells (bfc room (r.put (pl f 0) seZ) f (x::es).length) 157 (0,0)):=by
   rw [heap_putRow _ _ _ _ _ (by rw [hq4,sec_size];exact bfc_has _ _ _ _ _ _),if_pos rfl,hq4,bfc_put]
  have hx5:=c5.keep hx4 (by simpa using HPQ.out)
  have hy5:=c5.keep hy4 (by simpa using HQY.out)
  have HC5:=Lib.hid ((HC4.out.mono (l':=[q]) (by simp)).trans c5)
  clear hq4 hx4 hy4 c5 oq4 ox4 oy4
  generalize putRow w4 q (1+pl f 0*5) (sec seZ)=w5 at hq5 hx5 hy5 HC5 ⊢
  refine (splace_at (n:=1) HF.out (by omega) hq5).mono ?_
  rintro e w6 ⟨rfl,rfl⟩
  have oq5:=old hq5
  have ox5:=old hx5
  have oy5:=old hy5
  have ne1:(p=q)=False:=eq_false HPQ.out
  have ne2:(y=q)=False:=eq_false HQY.out
  have ne3:(y=p)=False:=eq_false HPY.out
  have hlen:(((x::es).length:Int)-1)=((es.length:Nat):Int):=by simp
  have hlb:(((x::es).length:Nat):Int)≤16:=by have:=HL.out;omega
  have hlb0:(1:Int)≤(((x::es).length:Nat):Int):=by rw [List.length_cons];omega
  have HLE:=Lib.hid (show es.length≤(x::es).length by simp)
  generalize (x::es).length=m at hq5 hlen hlb hlb0 HL HLE ⊢
  go_wp2_with fail
  have h6:((w5.setCell ⟨q,81,none⟩ (.int .i64 (pl f 1))).setCell ⟨q,82,none⟩ (.int .i64 es.length)).heap[q]? =some (.cells (bfc room (r.put (pl f 0) seZ) (pl f 1) es.length) 157 (0,0)):=by
   rw [heap_setCell,if_pos rfl,heap_setCell,if_pos rfl,hq5,rowSet_some,rowSet_some,bfc_setFirst,bfc_setCount]
  have c6:Chg [q] w5 ((w5.setCell ⟨q,81,none⟩ (.int .i64 (pl f 1))).setCell ⟨q,82,none⟩ (.int .i64 es.length)):=((Chg.refl [q] w5).setCell _ _ _ (.inl (by simp))).setCell _ _ _ (.inl (by simp))
  have hx6:=c6.keep hx5 (by simpa using HPQ.out)
  generalize (w5.setCell ⟨q,81,none⟩ (.int .i64 (pl f 1))).setCell ⟨q,82,none⟩ (.int .i64 es.length)=w6 at h6 c6 hx6 ⊢
  have c7:Chg [p] w6 (putRow w6 p 0 (sec x)):=(Chg.refl [p] w6).putRow _ _ _ (.inl (by simp))
  refine bodyPost_ret (v:=.tuple #[.agg (sec x),.bool true]) ?_ (by rfl) ?_
  ·exact results_se2 (by rfl) _ _ p x (0,0) (by rfl) (by simp [hx6];try rfl) _ (by rfl)
  refine ⟨rfl,(HC5.out.trans c6).trans' c7 (by have:=HP.out;simp;omega),r.put (pl f 0) seZ,pl f 1,c7.keep h6 (by simpa using Ne.symm HPQ.out),pl_lt _ _,HA.out,by have:=HL.out;have:=HLE.out;show es.length≤room;omega,HL.out.2.1,HL.out.2.2⟩
theorem ring_send {r:Ring} {f:Nat} {x:Se} {es:List Se} (h:∀n e,(x::es)[n]? =some e→r.get (pl f n)=e) (hl:(x::es).length≤16):∀n e,(sent x::es)[n]? =some e→(r.put (pl f 0) (sent (r.get (pl f 0)))).get (pl f n)=e:=by
 intro n e hn
 have h0:=h 0 x rfl
 rcases n with _|n
 ·rw [Ring.put_same _ (pl_lt _ _),h0]
  simpa [sent] using hn
 ·have h1:=(List.getElem?_eq_some_iff.1 hn).1
  simp only [List.length_cons] at hl h1
  rw [Ring.put_other _ (pl_ne (by omega) (by omega))]
  exact h (n+1) e (by simpa using hn)
theorem ssend_ok {w:World} {q room:Nat} {es:List Se} (hb:Buf w q room es):Calls Tryz.prog 92 #[.pointer (some ⟨q,0,none⟩)] w (BufTo w q room (sdE es) (.tuple #[])):=by
 have HB:=Lib.hid hb
 clear hb
 go_enter Tryz.func92,Tryz.ntmps92
 go_wp2_with fail
 refine (shead_ok HB.out).mono ?_
 rintro e w2 ⟨rfl,c2⟩
 have HB2:=Lib.hid (HB.out.keep c2 (by simp))
 have oq2:=HB2.out.oldq
 have HC2:=Lib.hid c2
 clear c2 HB
 rcases es with _|⟨x,es⟩
 ·rw [show hdE []=seZ from rfl,show hdB []=false from rfl]
  go_wp2_with fail
  go_end0
  have hc:=((Chg.refl [] w2).alloc (.cells (sec seZ) 112))
  exact ⟨rfl,(HC2.out.trans hc).mono (by simp),HB2.out.keep hc (by simp)⟩
 ·rw [show hdE (x::es)=x from rfl,show hdB (x::es)=true from rfl]
  by_cases h14:x.kd=14
  ·have HS:=Lib.hid (show sdE (x::es)=sent x::es by simp [sdE,h14])
   have t14:(x.kd==14)=true:=by simp [h14]
   have hy:(w2.alloc (.cells (sec x) 112)).heap[w2.heap.size]? =some (.cells (sec x) 112 (0,0)):=by simp
   have c3:=(Chg.refl [] w2).alloc (.cells (sec x) 112)
   have HB3:=Lib.hid (HB2.out.keep c3 (by simp))
   have HC3:=Lib.hid (HC2.out.trans c3)
   clear c3 HB2 HC2 h14
   go_wp2_with fail
   generalize w2.heap.size=y at hy ⊢
   generalize w2.alloc (.cells (sec x) 112)=w3 at hy HB3 HC3 ⊢
   obtain ⟨r,f,hq,hf,hall,hle⟩:=HB3.out
   have HF:=Lib.hid hf
   have HA:=Lib.hid (ring_send hall (by omega))
   have HL:=Lib.hid hle
   clear hf hall hle hy
   refine (sat_c (n:=0) HF.out (by omega) hq).mono ?_
   rintro e w4 ⟨rfl,c4⟩
   have hq4:=c4.keep hq (by simp)
   have HC4:=Lib.hid (HC3.out.trans c4)
   have oq4:=old hq4
   clear hq c4
   generalize hm:(x::es).length=m at hq4 HL
   have HM:=Lib.hid (show (sent x::es).length=m from hm)
   clear hm
   have h83:(bfc room r f m)[1+pl f 0*5+4]? =some (.bool (r.get (pl f 0)).sn):=bfc_sn _ _ _ _ _
   go_wp2_with fail
   go_end0
   refine ⟨rfl,(HC4.out.mono (l':=[q]) (by simp)).setCell _ _ _ (.inl (by simp)),?_⟩
   rw [HS.out]
   refine ⟨r.put (pl f 0) (sent (r.get (pl f 0))),f,?_,HF.out,HA.out,by rw [HM.out];exact HL.out⟩
   rw [heap_setCell,if_pos rfl,hq4,bfc_sent,HM.out]
  ·have HS:=Lib.hid (show sdE (x::es)=x::es by simp [sdE,h14])
   have t14:(x.kd==14)=false:=by simpa using h14
   clear h14
   go_wp2_with fail
   go_end0
   have hc:=((Chg.refl [] w2).alloc (.cells (sec x) 112))
   exact ⟨rfl,(HC2.out.trans hc).mono (by simp),by rw [HS.out];exact HB2.out.keep hc (by simp)⟩
end Go.Proofs.YtcjoinhngdfdmaaGreatDoor
end
section
namespace Go.Proofs.YtcjoinhngdfdmaaGreatDoor
open Go.RowKit
set_option linter.unusedVariables false
set_option maxHeartbeats 1000000
set_option maxRecDepth 100000
attribute [local go_sem ↓] append_appS copy_copS clear_clrS make_mkS cell_row frozen_row loadLine storeLine loadSlot storeSlot heap_drew heap_drewN heap_alloc heap_past heap_setCell heap_putRow vs_get slc_st slc_li slc_us slice_slS loadMsg storeMsg loadHas storeHas msc_kd msc_li msc_di msc_ke
attribute [local go_sem] rowCell_some rowFrozen_some rowHas_some rowIn_some rowPart_full rowPart_lit rowPut_full rowPut_lit rowSet_some size_putRow vs_size vs_one wideLine wideSlot run_loadS run_storeS run_appS run_copS run_clrS run_mkS loadW_at storeW_at fit_all fit_le one_int one_bool one_pointer one_slice allOne_list putRow_new ne_size1 ne_size2 ne_size3 ne_size4 zero8_length lines_nil line_eq lit8 slc_size slc_one slc_part slc_in fold_slt fold_slc slc_set_us wideMsg wideHas run_slS msc_size msc_one msc_part msc_in fold_msc msc_putDi msc_putKe msc_putX msc_has ms4_lit
attribute [local simp ↓] heap_drew heap_drewN heap_alloc heap_past heap_setCell heap_putRow
attribute [local simp] rowCell_some rowFrozen_some rowHas_some rowIn_some rowPart_full rowPart_lit rowPut_full rowPut_lit rowSet_some size_putRow vs_size fit_all putRow_new ne_size1 ne_size2 ne_size3 ne_size4 zero8_length slc_size msc_size msc_putDi msc_putKe msc_putX msc_has fit_le
attribute [local go_sem ↓] ec_he ec_di ec_ow ec_sh ec_bu ec_by ec_wa sc_to
attribute [local go_sem] mi_and mi_or mi_not mi_beq0 mi_bne0 ec_size ec_one ec_part ec_in ec_has ec_setDi ec_setOw ec_setSh ec_setBu ec_setBy ec_setWa ec_setSh0 ec_setWa0 ec_putM sc_size sc_one sc_part sc_in
attribute [local simp] ec_size sc_size ec_setDi ec_setOw ec_setSh ec_setBu ec_setBy ec_setWa ec_setSh0 ec_setWa0 ec_putM
attribute [local go_sem ↓] loadEn storeEn loadSd storeSd en_z0
attribute [local go_sem] wideEn wideSd fold_sc size11 putRow_newB putRow_newC ms5_lit
attribute [local simp] en_z0 putRow_newB putRow_newC fit_le ec_has
section
variable {W w w':World} {c:Cg} {sy:Nat} {F:List Nat} {ps:List Pt} {en:List En} {es:List Ent} {xs:List Int} (hm:Mem W w c sy F ps en es xs)
include hm
theorem mflush_4 (i:Nat) (li:Int) (x:Pt) (hy:ps[i]? =some x) (hT:Tab W) (hl:inB li c.li=true) (hq:x.up.length<1000) (hma:mg (ms4 4 li false false)=true):
 Calls Tryz.prog 90 #[.pointer (some ⟨sy,0,none⟩),.int .i64 i,.int .i64 li,.int .i64 4] w fun e w'=>e=.returned (.int .i64 0)∧MemTo W w c sy F (ps.set i {x with up:=x.up++[ms4 4 li false false]}) en es xs w':=by
 obtain ⟨z,L,rfl,rfl,rfl,h⟩:=hm
 obtain ⟨p,hp⟩:=ports_of hy
 exact (zflush_4 i li p x w h hT hp hl hq hma).mono fun e w' ⟨he,p',M⟩=>⟨he,MemTo.of M rfl (ports_set ..)⟩
theorem mflush_5 (i:Nat) (li:Int) (x:Pt) (hy:ps[i]? =some x) (hT:Tab W) (hl:inB li c.li=true) (hq:x.up.length<1000) (hma:mg (ms4 5 li false false)=true):
 Calls Tryz.prog 90 #[.pointer (some ⟨sy,0,none⟩),.int .i64 i,.int .i64 li,.int .i64 5] w fun e w'=>e=.returned (.int .i64 0)∧MemTo W w c sy F (ps.set i {x with up:=x.up++[ms4 5 li false false]}) en es xs w':=by
 obtain ⟨z,L,rfl,rfl,rfl,h⟩:=hm
 obtain ⟨p,hp⟩:=ports_of hy
 exact (zflush_5 i li p x w h hT hp hl hq hma).mono fun e w' ⟨he,p',M⟩=>⟨he,MemTo.of M rfl (ports_set ..)⟩
theorem mup_none (i:Nat) (x:Pt) (hy:ps[i]? =some x) (hx:x.up=[]):
 Calls Tryz.prog 19 #[.pointer (some ⟨sy,0,none⟩),.int .i64 i] w fun e w'=>e=.returned (.int .i64 14)∧Chg [] w w':=by
 obtain ⟨z,L,rfl,rfl,rfl,h⟩:=hm
 obtain ⟨p,hp⟩:=ports_of hy
 exact zup_none i p x w h hp hx
theorem mup_go (i k:Nat) (x:Pt) (hy:ps[i]? =some x) (m:Ms) (rest:List Ms) (e e':En) (l:List Int) (hl:l.length=8) (ds:List Sd) (v:Int) (hT:Tab W) (hx:x.up=m::rest) (hlu:x.up.length≤1000) (hk:m.li=(k:Int)) (he:en[k]? =some e) (hX:ln (over xs es) k=l)
 (hr:askE (hereE e l hl) i m=((e',ds),v)) (hto:∀d∈ds,0≤d.to∧d.to<c.co∧mg d.m=true) (M:Nat) (hM:∀x∈ps,x.dn.length≤M) (hMn:M+ds.length≤1000):
 Calls Tryz.prog 19 #[.pointer (some ⟨sy,0,none⟩),.int .i64 i] w fun r w'=>(v≠0∧r=.returned (.int .i64 v)∧MemTo W w c sy F ps en es xs w')∨(v=0∧r=.returned (.int .i64 0)∧MemTo W w c sy F (sendP (ps.set i {x with up:=rest}) ds) (en.set k e') es xs w'):=by
 obtain ⟨z,L,rfl,rfl,rfl,h⟩:=hm
 obtain ⟨p,hp⟩:=ports_of hy
 refine (zup_go i k p x m rest e e' l hl ds v w h hT hp hx hlu hk he hX hr hto M hM hMn).mono fun r w' hr2=>?_
 rcases hr2 with ⟨h1,h2,be',M1⟩|⟨h1,h2,be',ks',L',M1,hp2⟩
 ·exact .inl ⟨h1,h2,MemTo.of M1 rfl rfl⟩
 ·exact .inr ⟨h1,h2,MemTo.of M1 rfl hp2⟩
theorem mhear_none (i:Nat) (x:Pt) (hy:ps[i]? =some x) (hx:x.dn=[]):
 Calls Tryz.prog 20 #[.pointer (some ⟨sy,0,none⟩),.int .i64 i] w fun e w'=>e=.returned (.tuple #[.agg (msc msZ),.int .i64 14])∧MemTo W w c sy F (ps.set i {x with dn:=[]}) en es xs w':=by
 obtain ⟨z,L,rfl,rfl,rfl,h⟩:=hm
 obtain ⟨p,hp⟩:=ports_of hy
 exact (zhear_none i p x w h hp hx).mono fun e w' ⟨he,p',M⟩=>⟨he,MemTo.of M rfl (ports_set ..)⟩
theorem mhear_go (i:Nat) (x:Pt) (hy:ps[i]? =some x) (m:Ms) (rest:List Ms) (s':Sta) (av:List Ms) (v:Int) (hT:Tabs W) (hx:x.dn=m::rest) (hlu:x.dn.length≤1000) (hu:x.s.2≤1000000000) (hr:hearF c.se c.wa x.s m=(s',(av,v))) (ha1:av.length≤1) (hla:x.an.length<1000) (hma:∀a∈av,mg a=true):
 Calls Tryz.prog 20 #[.pointer (some ⟨sy,0,none⟩),.int .i64 i] w fun e w'=>(v≠0∧e=.returned (.tuple #[.agg (msc msZ),.int .i64 v])∧MemTo W w c sy F (ps.set i {x with s:=s',dn:=rest}) en es xs w')∨(v=0∧e=.returned (.tuple #[.agg (msc m),.int .i64 0])∧MemTo W w c sy F (ps.set i {x with s:=s',an:=x.an++av,dn:=rest}) en es xs w'):=by
 obtain ⟨z,L,rfl,rfl,rfl,h⟩:=hm
 obtain ⟨p,hp⟩:=ports_of hy
 refine (zhear_go i p x m rest s' av v w h hT hp hx hlu hu hr ha1 hla hma).mono fun r w' hr2=>?_
 rcases hr2 with ⟨h1,h2,p',M1⟩|⟨h1,h2,ks',p',M1⟩
 ·exact .inl ⟨h1,h2,MemTo.of M1 rfl (ports_set ..)⟩
 ·exact .inr ⟨h1,h2,MemTo.of M1 rfl (ports_set ..)⟩
theorem mflush_no (k li:Int) (kd:Int) (hk:inB k c.co=false):Calls Tryz.prog 90 #[.pointer (some ⟨sy,0,none⟩),.int .i64 k,.int .i64 li,.int .i64 kd] w fun e w'=>e=.returned (.int .i64 1)∧w=w':=by
 obtain ⟨z,L,rfl,rfl,rfl,h⟩:=hm
 exact zflush_no k li kd w h hk
theorem mflush_off (i:Nat) (li:Int) (kd:Int) (hi:i<c.co) (hl:inB li c.li=false):Calls Tryz.prog 90 #[.pointer (some ⟨sy,0,none⟩),.int .i64 i,.int .i64 li,.int .i64 kd] w fun e w'=>e=.returned (.int .i64 1)∧w=w':=by
 obtain ⟨z,L,rfl,rfl,rfl,h⟩:=hm
 exact zflush_off i li kd w h hi hl
theorem mflush_kind (i:Nat) (li kd:Int) (hi:i<c.co) (hl:inB li c.li=true) (h4:kd≠4) (h5:kd≠5):Calls Tryz.prog 90 #[.pointer (some ⟨sy,0,none⟩),.int .i64 i,.int .i64 li,.int .i64 kd] w fun e w'=>e=.returned (.int .i64 1)∧w=w':=by
 obtain ⟨z,L,rfl,rfl,rfl,h⟩:=hm
 exact zflush_kind i li kd w h hi hl h4 h5
theorem mup_no (k:Int) (hk:inB k c.co=false):Calls Tryz.prog 19 #[.pointer (some ⟨sy,0,none⟩),.int .i64 k] w fun e w'=>e=.returned (.int .i64 1)∧w=w':=by
 obtain ⟨z,L,rfl,rfl,rfl,h⟩:=hm
 exact zup_no k w h hk
theorem mhear_no (k:Int) (hk:inB k c.co=false):Calls Tryz.prog 20 #[.pointer (some ⟨sy,0,none⟩),.int .i64 k] w fun e w'=>e=.returned (.tuple #[.agg (msc msZ),.int .i64 1])∧Chg [] w w':=by
 obtain ⟨z,L,rfl,rfl,rfl,h⟩:=hm
 exact zhear_no k w h hk
end
end Go.Proofs.YtcjoinhngdfdmaaGreatDoor
end
section
namespace Go.Proofs.YtcjoinhngdfdmaaGreatDoor
open Go.RowKit
set_option linter.unusedVariables false
set_option maxHeartbeats 1000000
set_option maxRecDepth 100000
attribute [local go_sem ↓] append_appS copy_copS clear_clrS make_mkS slice_slS cell_row frozen_row loadLine storeLine loadMsg storeMsg heap_drew heap_drewN heap_alloc heap_past heap_setCell heap_putRow vs_get msc_kd msc_li msc_di msc_ke
attribute [local go_sem] rowCell_some rowFrozen_some rowHas_some rowIn_some rowPart_full rowPart_lit rowPut_full rowPut_lit rowSet_some size_putRow vs_size vs_one wideLine wideMsg run_loadS run_storeS run_appS run_copS run_clrS run_mkS run_slS loadW_at storeW_at fit_all fit_le one_int one_bool one_pointer one_slice allOne_list putRow_new ne_size1 ne_size2 ne_size3 ne_size4 zero8_length line_eq lit8 msc_size msc_one msc_part msc_in fold_msc
attribute [local simp ↓] heap_drew heap_drewN heap_alloc heap_past heap_setCell heap_putRow
attribute [local simp] rowCell_some rowFrozen_some rowHas_some rowIn_some rowPart_full rowPart_lit rowPut_full rowPut_lit rowSet_some size_putRow vs_size fit_all putRow_new ne_size1 ne_size2 ne_size3 ne_size4 zero8_length msc_size
attribute [local go_sem ↓] ec_he ec_di ec_ow ec_sh ec_bu ec_by ec_wa sc_to
attribute [local go_sem] mi_and mi_or mi_not mi_beq0 mi_bne0 ec_size ec_one ec_part ec_in ec_has ec_setDi ec_setOw ec_setSh ec_setBu ec_setBy ec_setWa ec_setSh0 ec_setWa0 ec_putM sc_size sc_one sc_part sc_in
attribute [local simp] ec_size sc_size ec_setDi ec_setOw ec_setSh ec_setBu ec_setBy ec_setWa ec_setSh0 ec_setWa0 ec_putM
attribute [local go_sem ↓] loadEn storeEn loadSd storeSd en_z0
attribute [local go_sem] wideEn wideSd fold_sc size11 putRow_newB putRow_newC ms5_lit
attribute [local simp] en_z0 putRow_newB putRow_newC fit_le ec_has
def En3V (w:World) (r:(En×List Sd)×Int):Ending→World→Prop:=fun e w'=>∃A c be,e=.returned (.tuple #[.agg (ec r.1.1),.slice A r.1.2.length c,.int .i64 r.2])∧Vec 13 142 Sd.enc w' 0 be A c r.1.2∧(be=0∨w.heap.size≤be)∧Chg [] w w'
theorem En3V.err (w w':World) (n:Int) (h:Chg [] w w'):En3V w ((enZ,[]),n) (.returned (.tuple #[.agg (ec enZ),.slice none 0 0,.int .i64 n])) w':=⟨none,0,0,rfl,.inl ⟨rfl,rfl,rfl,rfl⟩,.inl rfl,h⟩
end Go.Proofs.YtcjoinhngdfdmaaGreatDoor
end
section
namespace Go.Proofs.YtcjoinhngdfdmaaGreatDoor
open Go.RowKit
set_option linter.unusedVariables false
set_option maxHeartbeats 1000000
theorem Inv.dnB {c:Cg} {n:Nat} {S:Mst} {cur:Nat→List Int} (h:Inv c n S cur):∀x∈S.ps,x.dn.length≤n:=by
 intro x hx
 obtain ⟨j,hj⟩:=List.getElem?_of_mem hx
 have hjl:=(List.getElem?_eq_some_iff.1 hj).1
 have:=(h.pt j (by rw [←h.co];exact hjl)).dn
 rw [atP_of hj] at this
 exact this
theorem tellL_len (o:Mk) (a:Ms):(tellL o a).length≤8:=by
 unfold tellL coresL
 rw [List.length_map]
 exact coresTo_len o 8
theorem tellL_to {o:Mk} {a:Ms} {co:Nat} (ho:∀j:Nat,j<8→hasM o j=true→j<co) (ha:mg a=true):∀d∈tellL o a,0≤d.to∧d.to<co∧mg d.m=true:=by
 intro d hd
 obtain ⟨h1,h2⟩:=tell_mem hd
 obtain ⟨j,hj,he⟩:=isC_nat (has_isC h1)
 rw [he] at h1
 have:=ho j hj h1
 exact ⟨by omega,by omega,by rw [h2];exact ha⟩
section
variable {W w:World} {c:Cg} {sy n:Nat} {F:List Nat} {S:Mst} {cur:Nat→List Int} (hm:MS W w c sy F S) (hI:Inv c n S cur)
include hm
include hI
end
end Go.Proofs.YtcjoinhngdfdmaaGreatDoor
end
