/- Texts of the walk, one behind the other: Quz Wpq Wpqa Wpqb Wpqc Wpqw Wpqg Aga Agb. No condition. -/
import Derived.Test.YtcjoinhngdfdmaaGreatDoorCLaa
import Derived.Test.YtcjoinhngdfdmaaGreatDoorCLab
import Derived.Test.YtcjoinhngdfdmaaGreatDoorCLac
import Derived.Test.YtcjoinhngdfdmaaGreatDoorCLad
import Derived.BigQuiet
import Derived.ChangeKeysEq
import Derived.Deep.Cut
import Derived.Deep.CutBlock
import Derived.Deep.CutRange
import Derived.Deep.DeepCutAuto
import Derived.Deep.QuietTactic
import Derived.Deep.RegionHeld3
import Derived.Deep.RegionWith
import Derived.IntWalk
import Derived.Laws.StructEq
namespace Go.Proofs.YtcjoinhngdfdmaaGreatDoor
open Go.RowKit
set_option linter.unusedVariables false
set_option maxHeartbeats 1000000
set_option maxRecDepth 100000
attribute [local go_sem ↓] append_appS copy_copS clear_clrS make_mkS cell_row frozen_row loadLine storeLine loadSlot storeSlot heap_drew heap_drewN heap_alloc heap_past heap_setCell heap_putRow slc_st slc_li slc_us slice_slS loadMsg storeMsg loadHas storeHas msc_kd msc_li msc_di msc_ke
attribute [local go_sem] rowCell_some rowFrozen_some rowHas_some rowIn_some rowPart_full rowPut_full rowSet_some vs_size vs_one wideLine wideSlot run_loadS run_storeS run_appS run_copS run_clrS run_mkS loadW_at storeW_at fit_all fit_le one_int one_bool one_pointer one_slice allOne_list putRow_new ne_size1 ne_size2 zero8_length lines_nil line_eq lit8 slc_size slc_one slc_part fold_slt fold_slc slc_set_us wideMsg wideHas run_slS msc_size msc_one msc_part fold_msc msc_putDi msc_putKe msc_putX ms4_lit
attribute [local simp ↓] heap_drew heap_drewN heap_alloc heap_past heap_setCell heap_putRow
attribute [local simp] rowCell_some rowFrozen_some rowHas_some rowIn_some rowPart_full rowPut_full rowSet_some vs_size fit_all putRow_new ne_size1 ne_size2 zero8_length slc_size msc_size msc_putDi msc_putKe msc_putX fit_le
attribute [local go_sem ↓] mlitZ
attribute [local simp] mlitZ
section
theorem ms_whole {w wr:World} {l:List Nat} {n b o k:Nat} {ys:List Ms} {y:Ms} (h:Sl w 12 (some ⟨b,o,none⟩) n (cat Ms.enc ys)) (hc:Chg l w wr) (hb:b∉l) (hk:k<n) (hy:ys[k]? =some y):
 ∃c t f,wr.heap[b]? =some (.cells c t f)∧rowIn (some (.cells c t f)) (o+k*12) 12=true∧rowPart (some (.cells c t f)) (o+k*12) 12=msc y:=by
 obtain ⟨cs,t,f,hb,_,hpa⟩:=(h.chg hc (by simpa using hb)).elem (by omega) hk (cat_part Ms.len hy)
 obtain ⟨r1,r2⟩:=hpa 0 12 (by omega)
 rw [Nat.add_zero] at r1 r2
 refine ⟨cs,t,f,hb,r1,?_⟩
 rw [r2]
 simp [msc,Ms.len,List.take_of_length_le]
theorem zhead_ok (T:TypeId) (C:Array Value) (q o be:Nat) (A:Option Addr) (cap:Nat) (xs:List Ms) (w:World) (hq:w.heap[q]? =some (.cells C T (0,0))) (hC:C[o]? =some (.slice A xs.length cap)) (hB:C[o+1]? =some (.slice none 0 0)) (hl:xs.length≤1000) (hV:Vof 12 50 Ms.enc w q be A cap xs):
 Calls Tryz.prog 54 #[.pointer (some ⟨q,o,none⟩)] w fun e w'=>e=.returned (.tuple #[.agg (msc (headM xs)),.bool (someB xs)])∧Chg [] w w':=by
 have C0:=Lib.hid ((Chg.refl [] w).alloc (.cells (msc msZ) 50))
 have oq:=old hq
 have HH:=Lib.hid (fun w1 (c:Chg [] w w1)=>qhead_ok T C q o be A cap xs w1 (c.keep hq (by simp)) hC hl (hV.keep c (by simp)))
 clear hV hl hC hB
 generalize headM xs=m at HH ⊢
 generalize someB xs=sb at HH ⊢
 go_enter Tryz.func54,Tryz.ntmps54
 try dsimp only [List.append]
 go_wp2_with fail
 refine (HH.out _ C0.out).mono ?_
 rintro e w2 ⟨rfl,c2⟩
 have r2:w2.heap[w.heap.size]? =some (.cells (msc msZ) 50 (0,0)):=c2.keep (by simp) (by simp)
 have o2:=old r2
 have CC:=Lib.hid (C0.out.trans c2)
 clear C0 c2
 go_wp2_with fail
 refine bodyPost_ret (v:=.tuple #[.agg (msc m),.bool sb]) ?_ (by rfl) ?_
 ·exact results_msg2 (by rfl) _ _ w.heap.size m (0,0) (by rfl) (by simp [*]) _ (by rfl)
 ·exact ⟨rfl,CC.out.putRow _ _ _ (.inr (Nat.le_refl _))⟩
theorem set_other {C:Array Value} {o k:Nat} {v x:Value} (h:C[k]? =some x) (hk:o≠k):(C.setIfInBounds o v)[k]? =some x:=by
 rw [Array.getElem?_setIfInBounds_ne hk];exact h
theorem set_this {C:Array Value} {o:Nat} {v x:Value} (h:C[o]? =some x):(C.setIfInBounds o v)[o]? =some v:=by
 have:=(Array.getElem?_eq_some_iff.1 h).1
 simp [this]
theorem set_twice {C:Array Value} {o:Nat} {v x:Value}:(C.setIfInBounds o v).setIfInBounds o x=C.setIfInBounds o x:=by
 apply Array.ext_getElem?
 intro i
 simp only [Array.getElem?_setIfInBounds,Array.size_setIfInBounds]
 split
 ·rfl
 ·rfl
theorem zpop_ok (T:TypeId) (C:Array Value) (q o be:Nat) (A:Option Addr) (cap:Nat) (xs:List Ms) (w:World) (hq:w.heap[q]? =some (.cells C T (0,0))) (hC:C[o]? =some (.slice A xs.length cap)) (hB:C[o+1]? =some (.slice none 0 0)) (hl:xs.length≤1000) (hV:Vof 12 50 Ms.enc w q be A cap xs):
 Calls Tryz.prog 57 #[.pointer (some ⟨q,o,none⟩)] w (QueTo T C q o be w xs.tail (.tuple #[.agg (msc (headM xs)),.bool (someB xs)])):=by
 have C0:=Lib.hid ((Chg.refl [] w).alloc (.cells (msc msZ) 50))
 have oq:=old hq
 have OB:=Lib.hid (hV.old oq)
 have HQS:w.heap.size≠q:=by have:=oq.lt;omega
 have HQB:w.heap.size≠be:=by have:=OB.out.lt;omega
 have HH:=Lib.hid (fun w1 (c:Chg [] w w1)=>qpop_ok T C q o be A cap xs w1 (c.keep hq (by simp)) hC hl (hV.keep c (by simp)))
 have HB:=Lib.hid hB
 clear hV hl hC hB
 generalize headM xs=m at HH ⊢
 generalize someB xs=sb at HH ⊢
 go_enter Tryz.func57,Tryz.ntmps57
 try dsimp only [List.append]
 go_wp2_with fail
 refine (HH.out _ C0.out).mono ?_
 rintro e w2 ⟨rfl,be',A',cap',hq2,hV2,c2,hb2⟩
 have r2:w2.heap[w.heap.size]? =some (.cells (msc msZ) 50 (0,0)):=c2.keep (by simp) (by simp [HQS,HQB])
 have o2:=old r2
 have oq2:=old hq2
 have hB2:(C.setIfInBounds o (.slice A' xs.tail.length cap'))[o+1]? =some (.slice none 0 0):=set_other HB.out (by omega)
 have HQ2:=Lib.hid hq2
 generalize hE:C.setIfInBounds o (.slice A' xs.tail.length cap')=C' at hq2 HQ2 hB2
 have HE:=Lib.hid hE
 clear hE
 have HV2:=Lib.hid hV2
 have CC:=Lib.hid ((C0.out.mono (l':=[q,be]) (by simp)).trans c2)
 have HSZ:=Lib.hid c2.size
 clear C0 c2 hq hV2
 go_wp2_with fail
 refine bodyPost_ret (v:=.tuple #[.agg (msc m),.bool sb]) ?_ (by rfl) ?_
 ·exact results_msg2 (by rfl) _ _ w.heap.size m (0,0) (by rfl) (by simp [*]) _ (by rfl)
 ·have c9:Chg [w.heap.size] w2 _:=((Chg.refl [w.heap.size] w2).alloc (.cells (msc m) 50)).putRow w.heap.size 0 (msc m) (.inl (by simp))
  have h4:=OB.out.lt
  have h5:be'≠w.heap.size:=by
   rcases hb2 with h|h
   ·omega
   ·simp at h;omega
  refine ⟨rfl,be',A',cap',?_,HV2.out.keep c9 (by simpa using h5),(CC.out.alloc _).putRow _ _ _ (.inr (Nat.le_refl _)),?_⟩
  ·rw [HE.out]
   exact c9.keep HQ2.out (by simpa using Ne.symm HQS)
  ·rcases hb2 with h|h
   ·exact .inl h
   ·simp at h;exact .inr (by omega)
theorem zask_ok (T:TypeId) (C:Array Value) (q o be:Nat) (A:Option Addr) (cap:Nat) (xs:List Ms) (m:Ms) (w:World) (hq:w.heap[q]? =some (.cells C T (0,0))) (hC:C[o]? =some (.slice A xs.length cap)) (hB:C[o+1]? =some (.slice none 0 0)) (hl:xs.length<1000) (hV:Vof 12 50 Ms.enc w q be A cap xs) (hT:Tab w) (hm:mg m=true):
 Calls Tryz.prog 143 #[.pointer (some ⟨q,o,none⟩),.agg (msc m)] w (QueTo T C q o be w (xs++[m]) (.int .i64 0)):=by
 have C0:=Lib.hid ((Chg.refl [] w).alloc (.cells (msc m) 50))
 have r0:(w.alloc (.cells (msc m) 50)).heap[w.heap.size]? =some (.cells (msc m) 50 (0,0)):=by simp
 have HH:=Lib.hid (fun w1 (c:Chg [] w w1)=>qpush_ok T C q o be A cap xs m w1 (c.keep hq (by simp)) hC hl (hV.keep c (by simp)) (hT.keep c (by simp)) hm)
 have oq:=old hq
 have OB:=hV.old oq
 have NX:=Lib.hid (show w.heap.size∉[q,be] by have h1:=oq.lt;have h2:=OB.lt;simp;omega)
 clear hV hl hC hB hT hm hq oq OB
 go_enter Tryz.func143,Tryz.ntmps143
 try dsimp only [List.append]
 go_wp2_with fail
 generalize w.alloc (.cells (msc m) 50)=w1 at r0 C0 ⊢
 go_region_held3 (fun w'=>w'.heap[w.heap.size]? =some (.cells (msc m) 50 (0,0))) (first |exact c2.keep r0 NX.out|exact r0)
  (first |(go_at_call 101;refine (HH.out _ C0.out.drew).mono ?_;rintro e w' ⟨rfl,be',A',cap',h1,h2,c2,h3⟩))
 go_wp2_with fail
 go_ret
 refine ⟨rfl,be',A',cap',h1,h2,(C0.out.drew.mono (l':=[q,be]) (by simp)).trans c2,?_⟩
 have:=C0.out.size
 rcases h3 with h|h
 ·exact .inl h
 ·exact .inr (Nat.le_trans this h)
theorem zsend_ok (T:TypeId) (C:Array Value) (q o be:Nat) (A:Option Addr) (cap:Nat) (xs:List Ms) (B:Option Addr) (n nc:Nat) (ms:List Ms) (w:World) (hq:w.heap[q]? =some (.cells C T (0,0))) (hC:C[o]? =some (.slice A xs.length cap)) (hB:C[o+1]? =some (.slice none 0 0)) (hl:xs.length+n≤1000) (hV:Vof 12 50 Ms.enc w q be A cap xs) (hT:Tab w) (h0:1∉[q,be]) (hn:n=ms.length) (hS:Sl w 12 B n (cat Ms.enc ms)) (hA:∀a,B=some a→a.block∉[q,be]) (hm:∀m∈ms,mg m=true):
 Calls Tryz.prog 61 #[.pointer (some ⟨q,o,none⟩),.slice B n nc] w (QueTo T C q o be w (xs++ms) (.tuple #[])):=by
 have oq:=old hq
 have OB:=Lib.hid (hV.old oq)
 have OQ:=Lib.hid oq
 have HL:=Lib.hid hl
 have HT:=Lib.hid hT
 have HS:=Lib.hid hS
 have HA:=Lib.hid hA
 have HM:=Lib.hid hm
 have HN:=Lib.hid hn
 have HB:=Lib.hid hB
 have HC:=Lib.hid hC
 have HQ:=Lib.hid hq
 have HV:=Lib.hid hV
 have N0:=Lib.hid h0
 have gn:(n:Int)≤1000:=by omega
 clear hl hT hS hA hm hn hB hC hq hV oq h0
 go_enter Tryz.func61,Tryz.ntmps61
 try dsimp only [List.append]
 go_wp2_with fail
 go_loopw [8] (fun i wr=>∃(j:Nat) (be':Nat) (A':Option Addr) (cap':Nat),j≤n∧i=.int .i64 j∧wr.heap[q]? =some (.cells (C.setIfInBounds o (.slice A' (xs.length+j) cap')) T (0,0))∧Vof 12 50 Ms.enc wr q be' A' cap' (xs++ms.take j)∧Chg [q,be] w wr∧(be'=be∨w.heap.size≤be')) (fun i _=>n-(intOf i).toNat)
 case atStart=>
  refine ⟨0,be,A,cap,by omega,rfl,?_,by simpa using HV.out,Chg.refl _ _,.inl rfl⟩
  rw [Nat.add_zero,setSame HC.out]
  exact HQ.out
 case round=>
  obtain ⟨j,be',A',cap',hj,rfl,hq,hV,hc,hb⟩:=hrel
  by_cases hlt:j<n
  ·have g1:(j:Int)<(n:Int):=by omega
   have g0:(0:Int)≤(j:Int):=by omega
   obtain ⟨b1,o1,rfl⟩:=HS.out.addr (by omega)
   obtain ⟨m,hy⟩:∃m,ms[j]? =some m:=⟨ms[j]'(by rw [←HN.out];exact hlt),List.getElem?_eq_getElem _⟩
   obtain ⟨c1,t1,f1,hb1,i1,p1⟩:=ms_whole HS.out hc (HA.out _ rfl) hlt hy
   have hx:xs++ms.take (j+1)=(xs++ms.take j)++[m]:=by
    rw [List.take_succ_eq_append_getElem (by rw [←HN.out];exact hlt:j<ms.length),List.append_assoc,show ms[j]'(by rw [←HN.out];exact hlt)=m from (List.getElem?_eq_some_iff.1 hy).2]
   have hlx:(xs++ms.take j).length=xs.length+j:=by rw [List.length_append,List.length_take,←HN.out,Nat.min_eq_left hj]
   have hmm:=HM.out m (List.mem_of_getElem? hy)
   have ob':be'<wr.heap.size:=(hV.old (old hq)).lt
   have hpush:=fun w1 (c:Chg [] wr w1)=>qpush_ok T (C.setIfInBounds o (.slice A' (xs.length+j) cap')) q o be' A' cap' (xs++ms.take j) m w1 (c.keep hq (by simp)) (by rw [hlx];exact set_this HC.out) (by rw [hlx];have:=HL.out;omega) (hV.keep c (by simp)) ((HT.out.keep hc N0.out).keep c (by simp)) hmm
   have HP:=Lib.hid hpush
   have HX:=Lib.hid hx
   have HCW:=Lib.hid hc
   have HBB:=Lib.hid hb
   have HHX:=Lib.hid hlx
   have NX:=Lib.hid (show wr.heap.size∉[q,be'] by have h1:=(old hq).lt;simp;omega)
   clear hy hpush hx hmm hc hb hlx
   have r0:(wr.alloc (.cells (msc m) 50)).heap[wr.heap.size]? =some (.cells (msc m) 50 (0,0)):=by simp
   have C0:=Lib.hid ((Chg.refl [] wr).alloc (.cells (msc m) 50))
   go_wp2_with fail
   generalize wr.alloc (.cells (msc m) 50)=w1 at r0 C0 ⊢
   go_region_held3 (fun w'=>w'.heap[wr.heap.size]? =some (.cells (msc m) 50 (0,0))) (first |exact c2.keep r0 NX.out|exact r0)
    (first |(go_at_call 101;refine (HP.out _ C0.out.drew).mono ?_;rintro e w' ⟨rfl,be2,A2,cap2,h1,h2,c2,h3⟩))
   have HR:=Lib.hid h1
   clear r0 h1
   go_wp2_with fail
   go_roundw
   case rel=>
    have h1:=HR.out
    rw [set_twice,List.length_append,HHX.out] at h1
    have c3:=(C0.out.drew.mono (l':=[q,be']) (by simp)).trans c2
    have hq0:=OQ.out.lt
    have hsz:=HCW.out.size
    refine ⟨j+1,be2,A2,cap2,by omega,by go_num,h1,by rw [HX.out];exact h2,?_,?_⟩
    ·refine HCW.out.trans' c3 ?_
     intro y hy
     simp only [List.mem_cons,List.not_mem_nil,or_false] at hy
     rcases hy with rfl|rfl
     ·simp
     ·rcases HBB.out with h|h
      ·left;rw [h];simp
      ·exact .inr h
    ·have:=C0.out.size
     have h4:=HBB.out
     have h5:w1.drew.heap.size=w1.heap.size:=rfl
     omega
   case measure=>simp [intOf];omega
  ·obtain rfl:j=n:=by omega
   have HQ9:=Lib.hid hq
   have HV9:=Lib.hid hV
   have HC9:=Lib.hid hc
   clear hq hV hc
   go_wp2_with fail
   refine bodyPost_ret (results_none rfl _ _ _) rfl ?_
   have e1:ms.take j=ms:=by rw [HN.out,List.take_length]
   refine ⟨rfl,be',A',cap',?_,?_,HC9.out,hb⟩
   ·rw [List.length_append,←HN.out];exact HQ9.out
   ·have:=HV9.out
    rw [e1] at this
    exact this
section
variable {P:Program} {t ty e:TypeId} {k bytes:Nat} {z:Value} {α:Type} {enc:α→List Value}
end
end
end Go.Proofs.YtcjoinhngdfdmaaGreatDoor
namespace Go.Proofs.YtcjoinhngdfdmaaGreatDoor
open Go.RowKit
set_option linter.unusedVariables false
section
theorem wideEnt:Wide Tryz.prog 243 9:=⟨⟨_,Tryz.underlying243,by rfl⟩,by kernel_rfl⟩
theorem loadEnt (x:Value):Instr.loadAt 243 x=loadS 243 9 x:=rfl
theorem storeEnt (x y:Value):Instr.storeAt 243 x y=storeS 243 9 x y:=rfl
attribute [local go_sem ↓] append_appS copy_copS clear_clrS make_mkS cell_row frozen_row loadLine storeLine loadEnt storeEnt heap_drew heap_drewN heap_alloc heap_past heap_setCell heap_putRow entc_pos
attribute [local go_sem] rowCell_some rowFrozen_some rowHas_some rowIn_some rowPart_full rowPut_full rowSet_some vs_size vs_one wideLine wideEnt run_loadS run_storeS run_appS run_copS run_clrS run_mkS loadW_at storeW_at fit_all fit_le one_int one_bool one_pointer one_slice allOne_list putRow_new ne_size1 ne_size2 zero8_length lines_nil line_eq lit8 entc_size entc_one entc_part entc_in fold_ent fold_entc
attribute [local simp ↓] heap_drew heap_drewN heap_alloc heap_past heap_setCell heap_putRow
attribute [local simp] rowCell_some rowFrozen_some rowHas_some rowIn_some rowPart_full rowPut_full rowSet_some vs_size fit_all putRow_new ne_size1 ne_size2 zero8_length entc_size
theorem ent_info:(Tryz.prog.info? 243).map (fun i=>(i.zero,i.size,i.bytes))=some (some entZ,9,72):=by kernel_rfl
theorem eltEnt:Elt Tryz.prog 148 243 9 72 entZ Ent.enc where
 slice:=Tryz.underlying148
 info:=ent_info
 zero:=entZ_size
 zone:=entZ_one
 pos:=by omega
 len:=Ent.len
 one:=Ent.one
def Que (w:World) (q be g n room:Nat) (es:List Ent):Prop:=
 (∃A cap,w.heap[q]? =some (.cells #[.pointer (some ⟨g,0,none⟩),.int .i64 n,.int .i64 room,.slice A es.length cap] 150 (0,0))∧Vec 9 243 Ent.enc w q be A cap es)∧
  es.length≤room∧1≤room∧room≤16∧2≤n∧n≤64∧Lie n es
theorem Que.keep {w w':World} {q be g n room:Nat} {es:List Ent} {l:List Nat} (h:Que w q be g n room es) (hc:Chg l w w') (hq:q∉l) (hb:be∉l):Que w' q be g n room es:=by
 obtain ⟨⟨A,cap,h1,h2⟩,h3⟩:=h
 exact ⟨⟨A,cap,hc.keep h1 hq,h2.keep hc hb⟩,h3⟩
theorem Que.oldq {w:World} {q be g n room:Nat} {es:List Ent} (h:Que w q be g n room es):Old w q:=by
 obtain ⟨⟨A,cap,h1,h2⟩,h3⟩:=h
 exact old h1
theorem Que.olde {w:World} {q be g n room:Nat} {es:List Ent} (h:Que w q be g n room es):Old w be:=by
 obtain ⟨⟨A,cap,h1,h2⟩,h3⟩:=h
 exact h2.old (old h1)
def MadeQue (w0:World) (g n room:Nat) (e:Ending) (w':World):Prop:=
 ∃q,e=.returned (.tuple #[.pointer (some ⟨q,0,none⟩),.int .i64 0])∧w0.heap.size≤q∧Chg [] w0 w'∧Que w' q q g n room []
theorem qnew_ok (g b n v room:Nat) (xs:List Int) (w:World) (hd:Dev w g b n v xs) (h1:1≤room) (h2:room≤16):Calls Tryz.prog 35 #[.pointer (some ⟨g,0,none⟩),.int .i64 room] w (MadeQue w g n room):=by
 have HD:=Lib.hid hd
 have t1:decide ((room:Int)<1)=false:=by simp;omega
 have t2:decide ((16:Int)<room)=false:=by simp;omega
 clear hd
 go_enter Tryz.func35,Tryz.ntmps35
 go_wp2_with fail
 refine (image_ok g b n v xs _ HD.out).mono ?_
 rintro e w' ⟨g',cap,r',rfl,a1,a2,a3,a4⟩
 clear a1
 go_wp2_with fail
 go_ret2
 refine ⟨w'.heap.size,rfl,a4.size,a4.alloc _,⟨none,0,by simp,Vec.nil _ _ _ _ _⟩,by simp,h1,h2,HD.out.2.2.2.1,HD.out.2.2.2.2.1,Lie.nil n⟩
theorem push_out (q be g n room:Nat) (es:List Ent) (i:Int) (l:List Int) (w:World) (hq:Que w q be g n room es) (h:¬(0≤i∧i<n)):Calls Tryz.prog 117 #[.pointer (some ⟨q,0,none⟩),.int .i64 i,.agg (vs l)] w fun e w'=>e=.returned (.int .i64 12)∧Chg [] w w':=by
 obtain ⟨⟨A,cap,hq,_⟩,_⟩:=hq
 have oq:=old hq
 by_cases h1:i<0
 ·have t1:decide (i<0)=true:=by simpa using h1
  clear h h1
  go_enter Tryz.func117,Tryz.ntmps117
  go_wp2
  go_ret
  exact ⟨rfl,(Chg.refl _ _).alloc _⟩
 ·have t1:decide (i<0)=false:=by simpa using h1
  have t2:decide ((n:Int)≤i)=true:=by simp;omega
  clear h h1
  go_enter Tryz.func117,Tryz.ntmps117
  go_wp2
  go_ret
  exact ⟨rfl,(Chg.refl _ _).alloc _⟩
theorem push_full (q be g n room:Nat) (es:List Ent) (i:Nat) (l:List Int) (w:World) (hq:Que w q be g n room es) (hi:i<n) (hr:room≤es.length):Calls Tryz.prog 117 #[.pointer (some ⟨q,0,none⟩),.int .i64 i,.agg (vs l)] w fun e w'=>e=.returned (.int .i64 13)∧Chg [] w w':=by
 obtain ⟨⟨A,cap,hq,_⟩,_⟩:=hq
 have oq:=old hq
 have t1:decide ((i:Int)<0)=false:=by simp
 have t2:decide (n≤i)=false:=by simp;omega
 have t3:decide (room≤es.length)=true:=by simpa using hr
 clear hr
 go_enter Tryz.func117,Tryz.ntmps117
 go_wp2
 go_quiet (fail)
 go_wp2
 go_ret
 exact ⟨rfl,((Chg.refl _ _).alloc _).drewN _⟩
end
section
attribute [local go_sem ↓] append_appS copy_copS clear_clrS make_mkS cell_row frozen_row loadLine storeLine loadEnt storeEnt heap_drew heap_drewN heap_alloc heap_past heap_setCell heap_putRow entc_pos
attribute [local go_sem] rowCell_some rowFrozen_some rowHas_some rowIn_some rowPart_full rowPut_full rowSet_some vs_size vs_one wideLine wideEnt run_loadS run_storeS run_appS run_copS run_clrS run_mkS loadW_at storeW_at fit_all fit_le one_int one_bool one_pointer one_slice allOne_list putRow_new ne_size1 ne_size2 zero8_length lines_nil line_eq lit8 entc_size entc_one entc_part entc_in fold_ent fold_entc
attribute [local simp ↓] heap_drew heap_drewN heap_alloc heap_past heap_setCell heap_putRow
attribute [local simp] rowCell_some rowFrozen_some rowHas_some rowIn_some rowPart_full rowPut_full rowSet_some vs_size fit_all putRow_new ne_size1 ne_size2 zero8_length entc_size
def QPut (w:World) (q be g n room:Nat) (es:List Ent) (v:Value) (e:Ending) (w':World):Prop:=
 e=.returned v∧∃be',(be'=be∨w.heap.size≤be')∧Chg [q,be] w w'∧Que w' q be' g n room es
theorem ent_slice (w:World) (e:Ent):Sl ((w.alloc (.cells (entc e) 243)).drew) 9 (some ⟨w.heap.size,0,none⟩) 1 (cat Ent.enc [e]):=
 ⟨by rw [cat_length Ent.len];rfl,.inr ⟨w.heap.size,0,entc e,243,(0,0),rfl,by simp,by rw [cat_one];simp [entc,Ent.len,List.take_of_length_le]⟩⟩
theorem push_ok (q be g n room:Nat) (es:List Ent) (x:Ent) (w:World) (hq:Que w q be g n room es) (hi:x.pos<n) (hr:es.length<room):
 Calls Tryz.prog 117 #[.pointer (some ⟨q,0,none⟩),.int .i64 x.pos,.agg (vs x.l)] w (QPut w q be g n room (es++[x]) (.int .i64 0)):=by
 have HQ:=Lib.hid hq
 have HL:=Lib.hid x.h
 obtain ⟨⟨A,cap,hq,hv⟩,_⟩:=hq
 have HV:=Lib.hid hv
 have oq:=old hq
 have t1:decide ((x.pos:Int)<0)=false:=by simp
 have t2:decide (n≤x.pos)=false:=by simp;omega
 have t3:decide (room≤es.length)=false:=by simpa using hr
 have HR:=Lib.hid hr
 have hl8:=x.h
 clear hr hv
 go_enter Tryz.func117,Tryz.ntmps117
 go_wp2
 go_quiet (fail)
 go_wp2_with fail
 have hbox:((w.alloc (.cells (vs x.l) 48)).drewN nq).heap[w.heap.size]? =some (.cells (vs x.l) 48 (0,0)):=by simp
 have c1:=((Chg.refl [] w).alloc (.cells (vs x.l) 48)).drewN nq
 have HZ:=Lib.hid (show ((w.alloc (.cells (vs x.l) 48)).drewN nq).heap.size=w.heap.size+1 by simp)
 generalize (w.alloc (.cells (vs x.l) 48)).drewN nq=w1 at hbox c1 HZ ⊢
 have hq1:=c1.keep hq (by simp)
 have hv1:=HV.out.keep c1 (by simp)
 have oq1:=old hq1
 have obox:=old hbox
 have HC1:=Lib.hid c1
 have ca:=((Chg.refl [] w1).alloc (.cells (entc x) 243)).drew
 obtain ⟨be',cap',A',w2,happ,hv2,hbe,hc2,hqq⟩:=(hv1.keep ca (by simp)).app (ty:=148) eltEnt (oq1.chg ca) (ent_slice w1 x) (c:=1) rfl (by have:=HR.out;have:=HQ.out.2.2.2.1;omega) (by have:=HR.out;have:=HQ.out.2.2.2.1;unfold maxLen;omega)
 have hq2:w2.heap[q]? =some (.cells #[.pointer (some ⟨g,0,none⟩),.int .i64 n,.int .i64 room,.slice A es.length cap] 150 (0,0)):=by rw [hqq];exact ca.keep hq1 (by simp)
 have HV2:=Lib.hid hv2
 have HB:=Lib.hid hbe
 have HC2:=Lib.hid hc2
 have HCA:=Lib.hid ca
 clear hv1 hv2 hqq hbe hc2 ca c1
 go_region
 all_goals
  go_wp2
  go_ret
  refine ⟨rfl,be',?_,?_,⟨A',cap',?_,?_⟩,?_,HQ.out.2.2.1,HQ.out.2.2.2.1,HQ.out.2.2.2.2.1,HQ.out.2.2.2.2.2.1,HQ.out.2.2.2.2.2.2.snoc hi⟩
  ·have h1:=HB.out
   have h2:=HZ.out
   have h3:((w1.alloc (.cells (entc x) 243)).drew).heap.size=w1.heap.size+1:=by simp
   omega
  ·exact (((HC1.out.trans HCA.out).mono (l':=[q,be]) (by simp)).trans' HC2.out (by simp)).setCell _ _ _ (.inl (by simp))
  ·simp [hq2]
  ·exact HV2.out.keep ((Chg.refl [q] w2).setCell _ _ _ (.inl (by simp))) (by have:=(HV2.out.there (by simp)).1;simpa using this)
  ·have:=HR.out;simp;omega
end
section
attribute [local go_sem ↓] append_appS copy_copS clear_clrS make_mkS cell_row frozen_row loadLine storeLine loadEnt storeEnt heap_drew heap_drewN heap_alloc heap_past heap_setCell heap_putRow entc_pos
attribute [local go_sem] rowCell_some rowFrozen_some rowHas_some rowIn_some rowPart_full rowPut_full rowSet_some vs_size vs_one wideLine wideEnt run_loadS run_storeS run_appS run_copS run_clrS run_mkS loadW_at storeW_at fit_all fit_le one_int one_bool one_pointer one_slice allOne_list putRow_new ne_size1 ne_size2 zero8_length lines_nil line_eq lit8 entc_size entc_one entc_part entc_in fold_ent fold_entc
attribute [local simp ↓] heap_drew heap_drewN heap_alloc heap_past heap_setCell heap_putRow
attribute [local simp] rowCell_some rowFrozen_some rowHas_some rowIn_some rowPart_full rowPut_full rowSet_some vs_size fit_all putRow_new ne_size1 ne_size2 zero8_length entc_size
def QRead (w:World) (g b n v:Nat) (xs:List Int) (l:List Int) (er:Int) (e:Ending) (w':World):Prop:=
 e=.returned (.tuple #[.agg (vs l),.int .i64 er])∧Chg [g] w w'∧Dev w' g b n v xs
theorem qread_ok (q be g b n v room:Nat) (es:List Ent) (xs:List Int) (i:Nat) (w:World) (hq:Que w q be g n room es) (hd:Dev w g b n v xs) (hi:i<n):
 Calls Tryz.prog 99 #[.pointer (some ⟨q,0,none⟩),.int .i64 i] w (QRead w g b n v xs (ln (over xs es) i) 0):=by
 have HQ:=Lib.hid hq
 have hle:es.length≤16:=by have:=hq.2.1;have:=hq.2.2.2.1;omega
 obtain ⟨⟨A,cap,hq,hv⟩,_,_,_,_,hn64,hlie⟩:=hq
 have HLIE:=Lib.hid hlie
 have HX:=Lib.hid hd.2.2.1
 have c1:=(Chg.refl [] w).alloc (.cells (vs zero8) 48)
 have HG:=Lib.hid (show g<w.heap.size from (old hd.1.choose_spec.choose_spec).lt)
 have HD:=Lib.hid (hd.keep c1 (by simp) (by simp))
 have HD0:=Lib.hid hd
 have HV:=Lib.hid hv
 have HW:=Lib.hid c1
 have oq:=old hq
 have obe:=(HQ.out.olde)
 clear hv hd hlie c1
 go_enter Tryz.func99,Tryz.ntmps99
 go_wp2
 go_loop [6] (fun x=>∃(k:Nat) (z:Int),k≤es.length∧z=(k:Int)-1∧x=.int .i64 z∧∀y∈es.drop k,y.pos≠i) (fun x=>(intOf x+1).toNat)
 case atStart=>exact ⟨es.length,_,by omega,rfl,rfl,by simp⟩
 case round=>
  obtain ⟨k,z,hk,hz,rfl,hno⟩:=hrel
  have HNO:=Lib.hid hno
  clear hno
  rcases k with _|j
  ·obtain rfl:z= -1:=by omega
   clear hz
   go_wp2_with fail
   refine (read_ok g b n v i xs _ HD.out hi).mono ?_
   rintro e w2 ⟨rfl,c2,d2⟩
   have hln:ln (over xs es) i=ln xs i:=ln_over_none es xs HX.out HLIE.out (by simpa using HNO.out)
   have hf:=fit_line HX.out hi
   have hl:=ln_length xs i hf
   have hb2:=c2.keep (k:=w.heap.size) (x:=.cells (vs zero8) 48 (0,0)) (by simp) (by have:=HG.out;simp;omega)
   have ob2:=old hb2
   have D2:=Lib.hid d2
   have C2:=Lib.hid ((HW.out.mono (l':=[g]) (by simp)).trans c2)
   have HLN:=Lib.hid hln
   clear d2 c2 hf hln
   go_wp2
   refine bodyPost_ret (v:=.tuple #[.agg (vs (ln xs i)),.int .i64 0]) ?_ (by rfl) ?_
   ·exact results_line2 (by rfl) _ _ w.heap.size (ln xs i) (0,0) (by rfl) (by simp [*]) hl _ (by rfl)
   ·rw [HLN.out]
    exact ⟨rfl,C2.out.putRow _ _ _ (.inr (Nat.le_refl _)),D2.out.keep ((Chg.refl [w.heap.size] w2).putRow _ _ _ (.inl (by simp))) (by have:=HG.out;simp;omega) (by have:=(old HD0.out.2.1).lt;simp;omega)⟩
  ·obtain rfl:z=(j:Int):=by omega
   clear hz
   have hlt:j<es.length:=hk
   obtain ⟨e,he⟩:∃e,es[j]? =some e:=⟨es[j],List.getElem?_eq_getElem hlt⟩
   obtain ⟨_,rfl,r,hbe,_⟩:=HV.out.there (by omega)
   have g1:(j:Int)<(es.length:Int):=by omega
   have g0:(0:Int)≤(j:Int):=by omega
   have rc:=ent_cell he r
   by_cases hei:e.pos=i
   ·subst hei
    have t1:(e.pos==e.pos)=true:=by simp
    have rp:=ent_line he r 243 (0,0)
    have ri:=ent_lineIn he r 243 (0,0)
    have hl:=e.h
    have hln:=Lib.hid (ln_over_at xs HX.out HLIE.out he HNO.out)
    clear he hk
    go_wp2
    refine bodyPost_ret (v:=.tuple #[.agg (vs e.l),.int .i64 0]) ?_ (by rfl) ?_
    ·exact results_line2 (by rfl) _ _ w.heap.size e.l (0,0) (by rfl) (by simp [*]) hl _ (by rfl)
    ·rw [hln.out]
     exact ⟨rfl,((Chg.refl _ _).alloc _),HD0.out.keep ((Chg.refl [] w).alloc _) (by simp) (by simp)⟩
   ·have t1:(e.pos==i)=false:=by simpa using hei
    have HN2:=Lib.hid (drop_all he hei HNO.out)
    clear he
    go_wp2
    go_round
    case rel=>exact ⟨j,_,by omega,rfl,rfl,HN2.out⟩
    case measure=>simp [intOf]
end
section
set_option maxRecDepth 100000
attribute [local go_sem ↓] append_appS copy_copS clear_clrS make_mkS cell_row frozen_row loadLine storeLine loadEnt storeEnt heap_drew heap_drewN heap_alloc heap_past heap_setCell heap_putRow entc_pos
attribute [local go_sem] rowCell_some rowFrozen_some rowHas_some rowIn_some rowPart_full rowPut_full rowSet_some vs_size vs_one wideLine wideEnt run_loadS run_storeS run_appS run_copS run_clrS run_mkS loadW_at storeW_at fit_all fit_le one_int one_bool one_pointer one_slice allOne_list putRow_new ne_size1 ne_size2 zero8_length lines_nil line_eq lit8 entc_size entc_one entc_part entc_in fold_ent fold_entc
attribute [local simp ↓] heap_drew heap_drewN heap_alloc heap_past heap_setCell heap_putRow
attribute [local simp] rowCell_some rowFrozen_some rowHas_some rowIn_some rowPart_full rowPut_full rowSet_some vs_size fit_all putRow_new ne_size1 ne_size2 zero8_length entc_size
def QCut (w:World) (q be g n room:Nat) (es:List Ent) (e:Ending) (w':World):Prop:=e=.returned (.tuple #[])∧Chg [q,be] w w'∧Que w' q be g n room es
theorem ent_zero:∀w,(zeroValue 243).run Tryz.prog w=.ok entZ w:=fun w=>by
 obtain ⟨i0,hi0,hz0,hz1,hz2⟩:=info_parts ent_info
 simp [zeroValue,typeInfo,hi0,hz0]
theorem clear_from (w:World) (q be m:Nat) (A:Option Addr) (cap:Nat) (es:List Ent) (hv:Vec 9 243 Ent.enc w q be A cap es) (hm:m≤es.length):
 ∃w',clrR Tryz.prog 148 0 #[.slice (if cap=m then A else A.map (·.add (m*9))) (es.length-m) (cap-m)] w=.ok (.tuple #[]) w'∧Chg [be] w w'∧w'.heap[q]? =w.heap[q]?∧Vec 9 243 Ent.enc w' q be A cap (es.take m):=by
 by_cases h:m=es.length
 ·subst h
  refine ⟨w,?_,Chg.refl _ _,rfl,by rw [List.take_length];exact hv⟩
  rw [Nat.sub_self]
  exact run_clear_sl0 Tryz.underlying148 w _ _
 ·have hlt:m<es.length:=by omega
  obtain ⟨hne,rfl,r,hb,hr⟩:=hv.there (by omega)
  have hle:=hv.le
  have hsz:(sq Ent.enc es r).size=es.length*9+r.length:=sq_size Ent.len es r
  have hrow:rowHas (w.heap[be]?) (m*9) ((es.length-m)*9)=true:=by
   rw [hb,rowHas_some,hsz]
   exact decide_eq_true (show _≤_ by omega)
  have hcl:=run_clear_sl (P:=Tryz.prog) (t:=148) (ty:=0) Tryz.underlying148 ent_zero entZ_one w be (m*9) (es.length-m) (cap-m) (by omega) hrow
  rw [if_neg (by omega)]
  refine ⟨_,by rw [Option.map_some,Addr.add_mid,Nat.zero_add];exact hcl,(Chg.refl _ _).putRow _ _ _ (.inl (by simp)),?_,?_⟩
  ·rw [heap_putRow _ _ _ _ _ (by rw [size_zeroCells];exact hrow),if_neg (Ne.symm hne)]
  ·refine .inr ⟨hne,rfl,by rw [List.length_take];omega,(Builtin.zeroCells entZ.cells (es.length-m)).toList++r,?_,?_⟩
   ·rw [heap_putRow _ _ _ _ _ (by rw [size_zeroCells];exact hrow),if_pos rfl,hb,rowPut_some,sq_toList]
    have hz:(Builtin.zeroCells entZ.cells (es.length-m)).toList.length=(es.length-m)*9:=by rw [Array.length_toList,size_zeroCells];rfl
    generalize (Builtin.zeroCells entZ.cells (es.length-m)).toList=z at hz
    congr 2
    unfold sq splice
    have e1:(cat Ent.enc es).length=es.length*9:=cat_length Ent.len es
    rw [List.take_append_of_le_length (by omega),cat_take Ent.len,List.drop_append,List.drop_eq_nil_of_le (by omega),List.nil_append,e1,hz,show m*9+(es.length-m)*9-es.length*9=0 by omega,List.drop_zero,List.append_assoc]
   ·simp only [List.length_append,List.length_take,Array.length_toList,size_zeroCells]
    rw [entZ_size,Nat.min_eq_left hm]
    omega
theorem shorten_ok (q be g n room m:Nat) (es:List Ent) (w:World) (hq:Que w q be g n room es) (hm:m≤es.length):
 Calls Tryz.prog 185 #[.pointer (some ⟨q,0,none⟩),.int .i64 m] w (QCut w q be g n room (es.take m)):=by
 have HQ:=Lib.hid hq
 obtain ⟨⟨A,cap,hq,hv⟩,hl,hr1,hr16,_⟩:=hq
 have hle:=hv.le
 have HM:=Lib.hid hm
 obtain ⟨w1,hcl,hc,hqq,hv1⟩:=clear_from w q be m A cap es hv hm
 have hq1:w1.heap[q]? =some (.cells #[.pointer (some ⟨g,0,none⟩),.int .i64 n,.int .i64 room,.slice A es.length cap] 150 (0,0)):=by rw [hqq];exact hq
 have oq1:=old hq1
 have HV1:=Lib.hid hv1
 have HC:=Lib.hid hc
 have g1:(m:Int)≤(es.length:Int):=by omega
 have g2:(m:Int)≤(cap:Int):=by omega
 clear hv hv1 hqq hc hm
 go_enter Tryz.func185,Tryz.ntmps185
 go_wp2
 all_goals
  go_end0
  have hnq:be∉[q]∨es.take m=[]:=by
   rcases HV1.out with ⟨_,_,_,h⟩|⟨h,_⟩
   ·exact .inr h
   ·exact .inl (by simpa using h)
  refine ⟨rfl,?_,⟨A,cap,?_,?_⟩,by rw [List.length_take];omega,hr1,hr16,HQ.out.2.2.2.2.1,HQ.out.2.2.2.2.2.1,HQ.out.2.2.2.2.2.2.sub (fun x hx=>List.mem_of_mem_take hx)⟩
  ·exact (HC.out.mono (l':=[q,be]) (by simp)).setCell _ _ _ (.inl (by simp))
  ·rw [List.length_take,Nat.min_eq_left HM.out];first |(simp [hq1];done)|(simp [hq1];omega)
  ·rcases HV1.out with ⟨h1,h2,h3,h4⟩|⟨h1,h2,h3,r,h4,h5⟩
   ·exact .inl ⟨h1,h2,h3,h4⟩
   ·exact (HV1.out).keep ((Chg.refl [q] w1).setCell _ _ _ (.inl (by simp))) (by simpa using h1)
theorem copy_up (w:World) (q be i:Nat) (cap:Nat) (A:Option Addr) (es:List Ent) (hv:Vec 9 243 Ent.enc w q be A cap es) (hi:i<es.length):
 ∃w',copR Tryz.prog 148 148 3 #[.slice (A.map (·.add (i*9))) (es.length-i) (cap-i),.slice (if cap=i+1 then A else A.map (·.add ((i+1)*9))) (es.length-(i+1)) (cap-(i+1))] w=.ok (goInt (es.length-(i+1):Nat)) w'∧
  Chg [be] w w'∧w'.heap[q]? =w.heap[q]?∧Vec 9 243 Ent.enc w' q be A cap (splice es i (es.drop (i+1))):=by
 obtain ⟨i0,hi0,hz0,hz1,hz2⟩:=info_parts ent_info
 obtain ⟨hne,rfl,r,hb,hr⟩:=hv.there (by omega)
 have hle:=hv.le
 have hsz:(sq Ent.enc es r).size=es.length*9+r.length:=sq_size Ent.len es r
 have hl:(cat Ent.enc (es.drop (i+1))).length=(es.length-(i+1))*9:=by rw [cat_length Ent.len,List.length_drop]
 have hsl:Sl w i0.size (if cap=i+1 then some ⟨be,0,none⟩ else (some (⟨be,0,none⟩:Addr)).map (·.add ((i+1)*9))) (es.length-(i+1)) (cat Ent.enc (es.drop (i+1))):=by
  rw [hz1]
  split
  ·exact ⟨hl,.inl (by omega)⟩
  ·rw [Option.map_some,Addr.add_mid,Nat.zero_add]
   exact hv.slFrom Ent.len (by omega)
 have hrow:rowHas (w.heap[be]?) (i*9) (cat Ent.enc (es.drop (i+1))).length=true:=by
  rw [hb,rowHas_some,hsz,hl]
  exact decide_eq_true (show _≤_ by omega)
 have hcp:=run_copy_sl (P:=Tryz.prog) (t:=148) (t':=148) (ty:=3) Tryz.underlying148 hi0 w be (i*9) _ (es.length-(i+1)) (cap-(i+1)) (es.length-i) (cap-i) _ hsl (by omega) (cat_one_cell Ent.one _) hrow
 refine ⟨_,by rw [Option.map_some,Addr.add_mid,Nat.zero_add];exact hcp,(Chg.refl _ _).putRow _ _ _ (.inl (by simp)),?_,?_⟩
 ·rw [heap_putRow _ _ _ _ _ (by simpa using hrow),if_neg (Ne.symm hne)]
 ·refine .inr ⟨hne,rfl,by rw [length_splice _ _ _ (by rw [List.length_drop];omega)];exact hle,r,?_,by rw [length_splice _ _ _ (by rw [List.length_drop];omega)];exact hr⟩
  rw [heap_putRow _ _ _ _ _ (by simpa using hrow),if_pos rfl,hb,rowPut_some,sq_toList,List.toList_toArray,splice_append _ _ _ _ (by rw [hl,cat_length Ent.len];omega),cat_splice Ent.len]
  rfl
theorem splice_up {α:Type} (es:List α) (i:Nat) (hi:i<es.length):(splice es i (es.drop (i+1))).take (es.length-1)=es.eraseIdx i:=by
 unfold splice
 rw [erase_at,List.take_append_of_le_length (by simp;omega),List.take_of_length_le (by simp;omega)]
theorem cut_ok (q be g n room i:Nat) (es:List Ent) (w:World) (hq:Que w q be g n room es) (hi:i<es.length):
 Calls Tryz.prog 165 #[.pointer (some ⟨q,0,none⟩),.int .i64 i] w (QCut w q be g n room (es.eraseIdx i)):=by
 have HQ:=Lib.hid hq
 obtain ⟨⟨A,cap,hq,hv⟩,hl,hr1,hr16,_⟩:=hq
 have hle:=hv.le
 obtain ⟨w1,hcp,hc,hqq,hv1⟩:=copy_up w.drew q be i cap A es (hv.keep (Chg.refl [] w).drew (by simp)) hi
 have hq1:w1.heap[q]? =some (.cells #[.pointer (some ⟨g,0,none⟩),.int .i64 n,.int .i64 room,.slice A es.length cap] 150 (0,0)):=by rw [hqq];exact hq
 have hln:(splice es i (es.drop (i+1))).length=es.length:=length_splice _ _ _ (by rw [List.length_drop];omega)
 have hq2:Que w1 q be g n room (splice es i (es.drop (i+1))):=by
  refine ⟨⟨A,cap,by rw [hln];exact hq1,hv1⟩,by rw [hln];exact hl,hr1,hr16,HQ.out.2.2.2.2.1,HQ.out.2.2.2.2.2.1,HQ.out.2.2.2.2.2.2.sub ?_⟩
  intro x hx
  unfold splice at hx
  rcases List.mem_append.1 hx with hx|hx
  ·rcases List.mem_append.1 hx with hx|hx
   ·exact List.mem_of_mem_take hx
   ·exact List.mem_of_mem_drop hx
  ·exact List.mem_of_mem_drop hx
 have oq1:=old hq1
 have HC:=Lib.hid ((Chg.refl [be] w).drew.trans hc)
 have HQ2:=Lib.hid hq2
 have HI:=Lib.hid hi
 have HLN:=Lib.hid hln
 have g1:(i:Int)≤(es.length:Int):=by omega
 have g2:(i:Int)+1≤(es.length:Int):=by omega
 clear hv hv1 hqq hc hq2 hln
 go_enter Tryz.func165,Tryz.ntmps165
 go_wp2
 go_region
 all_goals go_wp2_with fail
 all_goals
  have hlt:((es.length-1:Nat):Int)=(es.length:Int)-1:=by have:=HI.out;omega
  rw [←hlt]
  clear hlt
  refine (shorten_ok q be g n room (es.length-1) (splice es i (es.drop (i+1))) _ HQ2.out (by rw [HLN.out];omega)).mono ?_
  rintro e w2 ⟨rfl,c2,q2⟩
  have C2:=Lib.hid c2
  have Q2:=Lib.hid q2
  clear c2 q2
  go_wp2_with fail
  go_end0
  exact ⟨rfl,(HC.out.mono (l':=[q,be]) (by simp)).trans C2.out,by rw [←splice_up es i HI.out];exact Q2.out⟩
theorem drain_none (q be g n room:Nat) (es:List Ent) (i:Int) (w:World) (hq:Que w q be g n room es) (hi:∀e∈es,(e.pos:Int)≠i):
 Calls Tryz.prog 118 #[.pointer (some ⟨q,0,none⟩),.int .i64 i] w fun e w'=>e=.returned (.int .i64 14)∧Chg [] w w':=by
 have HQ:=Lib.hid hq
 have HI:=Lib.hid hi
 have hle:es.length≤16:=by have:=hq.2.1;have:=hq.2.2.2.1;omega
 obtain ⟨⟨A,cap,hq,hv⟩,_⟩:=hq
 have HV:=Lib.hid hv
 have oq:=old hq
 clear hv hi
 go_enter Tryz.func118,Tryz.ntmps118
 go_wp2
 go_loopw [14] (fun x wr=>∃k:Nat,k≤es.length∧x=.int .i64 k∧Chg [] w wr) (fun x _=>es.length-(intOf x).toNat)
 case atStart=>exact ⟨0,by omega,rfl,Chg.refl _ _⟩
 case round=>
  obtain ⟨k,hk,rfl,hc⟩:=hrel
  by_cases hlt:k<es.length
  ·obtain ⟨e,he⟩:∃e,es[k]? =some e:=⟨es[k],List.getElem?_eq_getElem hlt⟩
   obtain ⟨_,rfl,r,hbe,_⟩:=HV.out.there (by omega)
   have hbr:=hc.keep hbe (by simp)
   have obe:=old hbr
   have g1:(k:Int)<(es.length:Int):=by omega
   have g0:(0:Int)≤(k:Int):=by omega
   have rp:=ent_row he r 243 (0,0)
   have ri:=ent_rowIn he r 243 (0,0)
   have t1:((e.pos:Int)==i)=false:=by simpa using HI.out e (List.mem_of_getElem? he)
   clear hbe he
   go_wp2
   go_roundw
   case rel=>exact ⟨k+1,by omega,by go_num,hc.alloc _⟩
   case measure=>simp [intOf];omega
  ·have:k=es.length:=by omega
   subst this
   go_wp2
   go_ret
   exact ⟨rfl,hc⟩
def QDrain (w:World) (q be g b n v room:Nat) (es:List Ent) (xs:List Int) (e:Ending) (w':World):Prop:=
 e=.returned (.int .i64 0)∧Chg [q,be,g,b] w w'∧Que w' q be g n room es∧Dev w' g b n v xs
def Apart (q be g b:Nat):Prop:=q≠g∧q≠b∧be≠g∧be≠b
theorem drain_ok (q be g b n v room:Nat) (es:List Ent) (xs:List Int) (j:Nat) (x:Ent) (w:World) (hq:Que w q be g n room es) (hd:Dev w g b n v xs) (ha:Apart q be g b) (hx:es[j]? =some x) (hi:∀e∈es.take j,(e.pos:Int)≠(x.pos:Int)):
 Calls Tryz.prog 118 #[.pointer (some ⟨q,0,none⟩),.int .i64 x.pos] w (QDrain w q be g b n v room (es.eraseIdx j) (lnPut xs x.pos x.l)):=by
 have HQ:=Lib.hid hq
 have HI:=Lib.hid hi
 have HA:=Lib.hid ha
 have HD:=Lib.hid hd
 have HX:=Lib.hid hx
 have hle:es.length≤16:=by have:=hq.2.1;have:=hq.2.2.2.1;omega
 obtain ⟨⟨A,cap,hq,hv⟩,_⟩:=hq
 have HV:=Lib.hid hv
 have HQ0:=Lib.hid hq
 have oq:=old hq
 have hjl:j<es.length:=(List.getElem?_eq_some_iff.1 hx).1
 clear hv hi ha hd hx
 go_enter Tryz.func118,Tryz.ntmps118
 go_wp2
 go_loopw [14] (fun y wr=>∃k:Nat,k≤j∧y=.int .i64 k∧Chg [] w wr) (fun y _=>es.length-(intOf y).toNat)
 case atStart=>exact ⟨0,by omega,rfl,Chg.refl _ _⟩
 case round=>
  obtain ⟨k,hk,rfl,hc⟩:=hrel
  obtain ⟨_,rfl,r,hbe,_⟩:=HV.out.there (by omega)
  have hbr:=hc.keep hbe (by simp)
  have hqr:=hc.keep HQ0.out (by simp)
  have obe:=old hbr
  have oqr:=old hqr
  have g1:(k:Int)<(es.length:Int):=by omega
  have g0:(0:Int)≤(k:Int):=by omega
  by_cases hkj:k<j
  ·obtain ⟨e,he⟩:∃e,es[k]? =some e:=⟨es[k]'(by omega),List.getElem?_eq_getElem (by omega)⟩
   have rp:=ent_row he r 243 (0,0)
   have ri:=ent_rowIn he r 243 (0,0)
   have t1:(e.pos==x.pos)=false:=by
    have:=HI.out e (List.mem_of_getElem? (show (es.take j)[k]? =some e by rw [List.getElem?_take_of_lt hkj];exact he))
    simp;omega
   clear hbe he
   go_wp2
   go_roundw
   case rel=>exact ⟨k+1,by omega,by go_num,hc.alloc _⟩
   case measure=>simp [intOf];omega
  ·obtain rfl:k=j:=by omega
   have rp:=ent_row HX.out r 243 (0,0)
   have ri:=ent_rowIn HX.out r 243 (0,0)
   have t1:(x.pos==x.pos)=true:=by simp
   have hx8:=x.h
   have HC:=Lib.hid hc
   have HBE:=Lib.hid hbe
   clear hbe hc hkj hk
   go_wp2_with fail
   have hqx:(wr.alloc (.cells (entc x) 243)).heap[q]? =some (.cells #[.pointer (some ⟨g,0,none⟩),.int .i64 n,.int .i64 room,.slice (some ⟨be,0,none⟩) es.length cap] 150 (0,0)):=by simp [hqr]
   have hxx:(wr.alloc (.cells (entc x) 243)).heap[wr.heap.size]? =some (.cells (entc x) 243 (0,0)):=by simp
   have C1:=Lib.hid (HC.out.alloc (.cells (entc x) 243))
   have HZ:=Lib.hid HC.out.size
   generalize wr.alloc (.cells (entc x) 243)=w1 at hqx hxx C1 ⊢
   have HGB:=Lib.hid (show g<wr.heap.size∧b<wr.heap.size from ⟨Nat.lt_of_lt_of_le (old HD.out.1.choose_spec.choose_spec).lt HZ.out,Nat.lt_of_lt_of_le (old HD.out.2.1).lt HZ.out⟩)
   have D1:=Lib.hid (HD.out.keep C1.out (by simp) (by simp))
   have Q1:=Lib.hid (HQ.out.keep C1.out (by simp) (by simp))
   go_region_held3 (fun w'=>w'.heap[q]? =some (.cells #[.pointer (some ⟨g,0,none⟩),.int .i64 n,.int .i64 room,.slice (some ⟨be,0,none⟩) es.length cap] 150 (0,0))∧w'.heap[wr.heap.size]? =some (.cells (entc x) 243 (0,0))) (first |exact ⟨hqx,hxx⟩|exact ⟨c2.keep hqx (by have:=HA.out.1;have:=HA.out.2.1;simp;omega),c2.keep hxx (by have:=HGB.out;simp;omega)⟩)
    ((go_at_call 164;refine (write_ok g b n v x.pos x.l xs _ (D1.out.keep ((Chg.refl [] w1).drew) (by simp) (by simp)) (HQ.out.2.2.2.2.2.2.get HX.out) hx8).mono ?_;rintro e w' ⟨rfl,c2,d2⟩))
   all_goals
    have HA1:=HA.out
    have Q2:=Lib.hid (Q1.out.keep (l:=[g,b]) ((Chg.refl [g,b] w1).drew.trans c2) (by have:=HA1.1;have:=HA1.2.1;simp;omega) (by have:=HA1.2.2.1;have:=HA1.2.2.2;simp;omega))
    have D2:=Lib.hid d2
    have C2:=Lib.hid ((C1.out.mono (l':=[g,b]) (by simp)).drew.trans c2)
    clear c2 d2 HA1 hqx hxx
    go_wp2_with fail
    refine (cut_ok q be g n room k es _ Q2.out hjl).mono ?_
    rintro e w4 ⟨rfl,c4,q4⟩
    have HA1:=HA.out
    have D4:=Lib.hid (D2.out.keep c4 (by have:=HA1.1;have:=HA1.2.2.1;simp;omega) (by have:=HA1.2.1;have:=HA1.2.2.2;simp;omega))
    have C4:=Lib.hid ((C2.out.mono (l':=[q,be,g,b]) (by simp)).trans' c4 (by simp))
    have Q4:=Lib.hid q4
    clear c4 q4 HA1
    go_wp2_with fail
    go_ret
    exact ⟨rfl,C4.out,Q4.out,D4.out⟩
end
section
set_option maxRecDepth 100000
attribute [local go_sem ↓] append_appS copy_copS clear_clrS make_mkS cell_row frozen_row loadLine storeLine loadEnt storeEnt heap_drew heap_drewN heap_alloc heap_past heap_setCell heap_putRow entc_pos
attribute [local go_sem] rowCell_some rowFrozen_some rowHas_some rowIn_some rowPart_full rowPut_full rowSet_some vs_size vs_one wideLine wideEnt run_loadS run_storeS run_appS run_copS run_clrS run_mkS loadW_at storeW_at fit_all fit_le one_int one_bool one_pointer one_slice allOne_list putRow_new ne_size1 ne_size2 zero8_length lines_nil line_eq lit8 entc_size entc_one entc_part entc_in fold_ent fold_entc
attribute [local simp ↓] heap_drew heap_drewN heap_alloc heap_past heap_setCell heap_putRow
attribute [local simp] rowCell_some rowFrozen_some rowHas_some rowIn_some rowPart_full rowPut_full rowSet_some vs_size fit_all putRow_new ne_size1 ne_size2 zero8_length entc_size
def Sys (W w:World) (q be g b n v room:Nat) (es:List Ent) (xs:List Int):Prop:=
 Chg [] W w∧Que w q be g n room es∧Dev w g b n v xs∧Apart q be g b∧W.heap.size≤q∧W.heap.size≤be∧W.heap.size≤g∧W.heap.size≤b
theorem Sys.keep {W w w':World} {q be g b n v room:Nat} {es:List Ent} {xs:List Int} (h:Sys W w q be g b n v room es xs) (hc:Chg [] w w'):Sys W w' q be g b n v room es xs:=
 ⟨h.1.trans hc,h.2.1.keep hc (by simp) (by simp),h.2.2.1.keep hc (by simp) (by simp),h.2.2.2⟩
def SysTo (W w:World) (q be g b n v room:Nat) (es:List Ent) (xs:List Int) (val:Value) (e:Ending) (w':World):Prop:=
 e=.returned val∧∃be',Sys W w' q be' g b n v room es xs∧Chg [q,be,g,b] w w'∧(be'=be∨w.heap.size≤be')
theorem Sys.in4 {W w:World} {q be g b n v room:Nat} {es:List Ent} {xs:List Int} (h:Sys W w q be g b n v room es xs):∀x∈[q,be,g,b],x∈([]:List Nat)∨W.heap.size≤x:=by
 intro x hx
 have:=h.2.2.2.2
 simp only [List.mem_cons,List.not_mem_nil,or_false] at hx
 rcases hx with rfl|rfl|rfl|rfl
 ·exact .inr this.1
 ·exact .inr this.2.1
 ·exact .inr this.2.2.1
 ·exact .inr this.2.2.2
theorem Dev.oldg {w:World} {g b n v:Nat} {xs:List Int} (h:Dev w g b n v xs):g<w.heap.size:=(old h.1.choose_spec.choose_spec).lt
theorem Dev.oldb {w:World} {g b n v:Nat} {xs:List Int} (h:Dev w g b n v xs):b<w.heap.size:=(old h.2.1).lt
section
variable {W w:World} {q be g b n v room:Nat} {es:List Ent} {xs:List Int} (h:Sys W w q be g b n v room es xs)
include h
theorem Sys.size:xs.length=n*8:=h.2.2.1.2.2.1
theorem Sys.n2:2≤n:=h.2.1.2.2.2.2.1
theorem Sys.new4 {k:Nat} (hk:w.heap.size≤k):k∉[q,be,g,b]:=by
 have h1:=h.2.1.oldq.lt
 have h2:=h.2.1.olde.lt
 have h3:=h.2.2.1.oldg
 have h4:=h.2.2.1.oldb
 simp;omega
theorem sys_push (x:Ent) (hi:x.pos<n) (hr:es.length<room):Calls Tryz.prog 117 #[.pointer (some ⟨q,0,none⟩),.int .i64 x.pos,.agg (vs x.l)] w (SysTo W w q be g b n v room (es++[x]) xs (.int .i64 0)):=
 (push_ok q be g n room es x w h.2.1 hi hr).mono fun e w' ⟨he,be',hb,hc,hq⟩=>by
  have ha:=h.2.2.2.1
  have hd:=h.2.2.1
  have hg:=hd.oldg
  have hgb:=hd.oldb
  have hn:=h.2.2.2.2
  have hw:=h.1.size
  obtain ⟨a1,a2,a3,a4⟩:=ha
  refine ⟨he,be',⟨?_,hq,hd.keep hc (by simp;omega) (by simp;omega),⟨a1,a2,?_,?_⟩,hn.1,?_,hn.2.2⟩,hc.mono (by simp),hb⟩
  ·exact h.1.trans' hc (by simp;omega)
  ·rcases hb with rfl|hb<;>omega
  ·rcases hb with rfl|hb<;>omega
  ·rcases hb with rfl|hb<;>omega
theorem sys_drain (x:Ent) (j:Nat) (hx:es[j]? =some x) (hi:∀e∈es.take j,(e.pos:Int)≠(x.pos:Int)):Calls Tryz.prog 118 #[.pointer (some ⟨q,0,none⟩),.int .i64 x.pos] w (SysTo W w q be g b n v room (es.eraseIdx j) (lnPut xs x.pos x.l) (.int .i64 0)):=
 (drain_ok q be g b n v room es xs j x w h.2.1 h.2.2.1 h.2.2.2.1 hx hi).mono fun e w' ⟨he,hc,hq,hd⟩=>⟨he,be,⟨h.1.trans' hc h.in4,hq,hd,h.2.2.2⟩,hc,.inl rfl⟩
theorem sys_read (i:Nat) (hi:i<n):Calls Tryz.prog 99 #[.pointer (some ⟨q,0,none⟩),.int .i64 i] w (SysTo W w q be g b n v room es xs (.tuple #[.agg (vs (ln (Go.Proofs.YtcjoinhngdfdmaaGreatDoor.over xs es) i)),.int .i64 0])):=
 (qread_ok q be g b n v room es xs i w h.2.1 h.2.2.1 hi).mono fun e w' ⟨he,hc,hd⟩=>by
  obtain ⟨a1,a2,a3,a4⟩:=h.2.2.2.1
  exact ⟨he,be,⟨h.1.trans' hc (by have:=h.2.2.2.2;simp;omega),h.2.1.keep hc (by simp;omega) (by simp;omega),hd,h.2.2.2⟩,hc.mono (by simp),.inl rfl⟩
end
theorem wsys_new (W:World) (n v room:Nat) (w:World) (g b:Nat) (xs:List Int) (hc:Chg [] W w) (hd:Dev w g b n v xs) (hg:W.heap.size≤g) (hb:W.heap.size≤b) (h1:1≤room) (h2:room≤16):
 Calls Tryz.prog 35 #[.pointer (some ⟨g,0,none⟩),.int .i64 room] w fun e w'=>∃q,e=.returned (.tuple #[.pointer (some ⟨q,0,none⟩),.int .i64 0])∧Sys W w' q q g b n v room [] xs∧Chg [] w w'∧w.heap.size≤q:=
 (qnew_ok g b n v room xs w hd h1 h2).mono fun e w' ⟨q,he,hq,hc',hqq⟩=>by
  have h3:=hd.oldg
  have h4:=hd.oldb
  have h5:=hc.size
  exact ⟨q,he,⟨hc.trans hc',hqq,hd.keep hc' (by simp) (by simp),⟨by omega,by omega,by omega,by omega⟩,by omega,by omega,hg,hb⟩,hc',hq⟩
end
section
set_option maxRecDepth 100000
attribute [local go_sem ↓] append_appS copy_copS clear_clrS make_mkS cell_row frozen_row loadLine storeLine loadEnt storeEnt heap_drew heap_drewN heap_alloc heap_past heap_setCell heap_putRow entc_pos
attribute [local go_sem] rowCell_some rowFrozen_some rowHas_some rowIn_some rowPart_full rowPut_full rowSet_some vs_size vs_one wideLine wideEnt run_loadS run_storeS run_appS run_copS run_clrS run_mkS loadW_at storeW_at fit_all fit_le one_int one_bool one_pointer one_slice allOne_list putRow_new ne_size1 ne_size2 zero8_length lines_nil line_eq lit8 entc_size entc_one entc_part entc_in fold_ent fold_entc
attribute [local simp ↓] heap_drew heap_drewN heap_alloc heap_past heap_setCell heap_putRow
attribute [local simp] rowCell_some rowFrozen_some rowHas_some rowIn_some rowPart_full rowPut_full rowSet_some vs_size fit_all putRow_new ne_size1 ne_size2 zero8_length entc_size
def wpushVal (n room:Nat) (es:List Ent) (li:Int):Int:=if 0≤li∧li<n then (if room≤es.length then 13 else 0) else 12
def pushEs (n room:Nat) (es:List Ent) (li:Int) (l:List Int) (h:l.length=8):List Ent:=if 0≤li∧li<n then (if room≤es.length then es else es++[⟨li.toNat,l,h⟩]) else es
def firstAt (es:List Ent) (li:Int):Nat:=es.findIdx (fun e=>(e.pos:Int)==li)
def drainVal (es:List Ent) (li:Int):Int:=if firstAt es li<es.length then 0 else 14
def drainEs (es:List Ent) (li:Int):List Ent:=es.eraseIdx (firstAt es li)
def drainXs (xs:List Int) (es:List Ent) (li:Int):List Int:=match es[firstAt es li]? with|some e=>lnPut xs e.pos e.l|none=>xs
theorem first_some {es:List Ent} {li:Int} (h:firstAt es li<es.length):∃e,es[firstAt es li]? =some e∧(e.pos:Int)=li∧∀x∈es.take (firstAt es li),(x.pos:Int)≠li:=by
 refine ⟨es[firstAt es li],List.getElem?_eq_getElem h,?_,?_⟩
 ·have:=List.findIdx_getElem (p:=fun e:Ent=>(e.pos:Int)==li) (xs:=es) (w:=h)
  simp only [beq_iff_eq] at this
  exact this
 ·intro x hx
  obtain ⟨i,hi,rfl⟩:=List.getElem_of_mem hx
  rw [List.getElem_take]
  have h1:i<es.findIdx (fun e:Ent=>(e.pos:Int)==li):=by rw [List.length_take] at hi;unfold firstAt at hi;omega
  have:=List.not_of_lt_findIdx h1
  simpa using this
theorem first_none {es:List Ent} {li:Int} (h:¬firstAt es li<es.length):∀e∈es,(e.pos:Int)≠li:=by
 have h1:es.findIdx (fun e:Ent=>(e.pos:Int)==li)=es.length:=Nat.le_antisymm List.findIdx_le_length (by unfold firstAt at h;omega)
 have:=List.findIdx_eq_length.1 h1
 intro e he
 simpa using this e he
section
variable {W w:World} {q be g b n v room:Nat} {es:List Ent} {xs:List Int} (h:Sys W w q be g b n v room es xs)
include h
theorem any_push (li:Int) (l:List Int) (hl:l.length=8):Calls Tryz.prog 117 #[.pointer (some ⟨q,0,none⟩),.int .i64 li,.agg (vs l)] w (SysTo W w q be g b n v room (pushEs n room es li l hl) xs (.int .i64 (wpushVal n room es li))):=by
 unfold pushEs wpushVal
 by_cases hi:0≤li∧li<n
 ·obtain ⟨j,rfl⟩:=Int.eq_ofNat_of_zero_le hi.1
  have hj:j<n:=by omega
  rw [if_pos hi,if_pos hi]
  by_cases hr:room≤es.length
  ·rw [if_pos hr,if_pos hr]
   exact (push_full q be g n room es j l w h.2.1 hj hr).mono fun e w' ⟨he,hc⟩=>⟨he,be,h.keep hc,hc.mono (by simp),.inl rfl⟩
  ·rw [if_neg hr,if_neg hr]
   exact sys_push h ⟨j,l,hl⟩ hj (by omega)
 ·rw [if_neg hi,if_neg hi]
  exact (push_out q be g n room es li l w h.2.1 hi).mono fun e w' ⟨he,hc⟩=>⟨he,be,h.keep hc,hc.mono (by simp),.inl rfl⟩
theorem any_drain (li:Int):Calls Tryz.prog 118 #[.pointer (some ⟨q,0,none⟩),.int .i64 li] w (SysTo W w q be g b n v room (drainEs es li) (drainXs xs es li) (.int .i64 (drainVal es li))):=by
 unfold drainEs drainVal drainXs
 by_cases hi:firstAt es li<es.length
 ·obtain ⟨x,h1,h2,h3⟩:=first_some hi
  rw [if_pos hi,h1]
  subst h2
  exact sys_drain h x _ h1 h3
 ·rw [if_neg hi,List.eraseIdx_of_length_le (by omega),List.getElem?_eq_none (by omega)]
  exact (drain_none q be g n room es li w h.2.1 (first_none hi)).mono fun e w' ⟨he,hc⟩=>⟨he,be,h.keep hc,hc.mono (by simp),.inl rfl⟩
end
section
end
section
end
end
section
set_option maxHeartbeats 1000000
attribute [local go_sem ↓] append_appS copy_copS clear_clrS make_mkS cell_row frozen_row loadLine storeLine loadSlot storeSlot heap_drew heap_drewN heap_alloc heap_past heap_setCell heap_putRow slc_st slc_li slc_us slice_slS loadMsg storeMsg loadHas storeHas msc_kd msc_li msc_di msc_ke
attribute [local go_sem] rowCell_some rowFrozen_some rowHas_some rowIn_some rowPart_full rowPut_full rowSet_some vs_size vs_one wideLine wideSlot run_loadS run_storeS run_appS run_copS run_clrS run_mkS loadW_at storeW_at fit_all fit_le one_int one_bool one_pointer one_slice allOne_list putRow_new ne_size1 ne_size2 zero8_length lines_nil line_eq lit8 slc_size slc_one slc_part fold_slt fold_slc slc_set_us wideMsg wideHas run_slS msc_size msc_one msc_part fold_msc msc_putDi msc_putKe msc_putX ms4_lit ms4_k ms4_l
attribute [local simp ↓] heap_drew heap_drewN heap_alloc heap_past heap_setCell heap_putRow
attribute [local simp] rowCell_some rowFrozen_some rowHas_some rowIn_some rowPart_full rowPut_full rowSet_some vs_size fit_all putRow_new ne_size1 ne_size2 zero8_length slc_size msc_size msc_putDi msc_putKe msc_putX fit_le ms4_k ms4_l
theorem agen_calls1 {P:Program} {fn:FuncId} {vs:Array Value} {K:Ending→World→Prop} {w W:World} {b1:Nat} {x1:Obj} (hc:Chg [] w W) (h1:W.heap[b1]? =some x1)
 (h:∀W',Chg [] w W'→W'.heap[b1]? =some x1→Calls P fn vs W' K):Calls P fn vs W K:=h W hc h1
theorem aputRow_newB (w:World) (o:Obj) (c cs:Array Value) (t:TypeId) (h:cs.size=c.size):putRow ((w.alloc o).alloc (.cells c t)) (w.heap.size+1) 0 cs=(w.alloc o).alloc (.cells cs t):=by
 have:=putRow_new (w.alloc o) c cs t h
 rwa [show (w.alloc o).heap.size=w.heap.size+1 by simp] at this
theorem aputRow_newC (w:World) (o o':Obj) (c cs:Array Value) (t:TypeId) (h:cs.size=c.size):putRow (((w.alloc o).alloc o').alloc (.cells c t)) (w.heap.size+2) 0 cs=((w.alloc o).alloc o').alloc (.cells cs t):=by
 have:=aputRow_newB (w.alloc o) o' c cs t h
 rwa [show (w.alloc o).heap.size=w.heap.size+1 by simp] at this
theorem asize11 (n:Nat):n+1+1=n+2:=rfl
attribute [local go_sem] aputRow_newB aputRow_newC asize11
attribute [local simp] aputRow_newB aputRow_newC
theorem gwrite_any (st:Int) (w:World):Calls Tryz.prog 179 #[.int .i64 st] w fun e w'=>e=.returned (.bool (mayWr st))∧w=w':=by
 cases t1:(st==2)
 all_goals
  go_enter Tryz.func179,Tryz.ntmps179
  try dsimp only [List.append]
  go_wp2_with fail
  go_ret
  exact ⟨by simp [mayWr,t1],rfl⟩
theorem rest_or (st:Int):atRest st=(st==1||mayWr st):=by
 unfold atRest mayWr
 rw [Bool.eq_iff_iff]
 simp
 omega
theorem grest_any (st:Int) (w:World):Calls Tryz.prog 200 #[.int .i64 st] w fun e w'=>e=.returned (.bool (atRest st))∧w=w':=by
 cases t1:(st==1)
 all_goals
  go_enter Tryz.func200,Tryz.ntmps200
  try dsimp only [List.append]
  go_wp2_with (go_at_call 179;refine (gwrite_any _ _).mono ?_;rintro e w' ⟨rfl,rfl⟩)
  go_ret
  exact ⟨by simp [rest_or,mayWr,t1],rfl⟩
theorem grest_at (st:Int) (b:Bool) (h:atRest st=b) (w:World):Calls Tryz.prog 200 #[.int .i64 st] w fun e w'=>e=.returned (.bool b)∧w=w':=h▸grest_any st w
theorem gwrite_at (st:Int) (b:Bool) (h:mayWr st=b) (w:World):Calls Tryz.prog 179 #[.int .i64 st] w fun e w'=>e=.returned (.bool b)∧w=w':=h▸gwrite_any st w
theorem gread_any (st:Int) (w:World):Calls Tryz.prog 191 #[.int .i64 st] w fun e w'=>e=.returned (.bool (mayR st))∧w=w':=by
 cases t1:atRest st
 all_goals
  go_enter Tryz.func191,Tryz.ntmps191
  try dsimp only [List.append]
  go_wp2_with (go_at_call 200;refine (grest_at _ _ t1 _).mono ?_;rintro e w' ⟨rfl,rfl⟩)
  go_ret
  exact ⟨by simp [mayR,t1],rfl⟩
theorem gline_any (li:Int) (w:World):Calls Tryz.prog 177 #[.int .i64 li] w fun e w'=>e=.returned (.bool (isLn li))∧w=w':=by
 cases t1:decide (0≤li)
 all_goals
  go_enter Tryz.func177,Tryz.ntmps177
  try dsimp only [List.append]
  go_wp2_with fail
  go_ret
  exact ⟨by simp [isLn,t1],rfl⟩
theorem gword_any (li:Int) (w:World):Calls Tryz.prog 178 #[.int .i64 li] w fun e w'=>e=.returned (.bool (isWd li))∧w=w':=by
 cases t1:decide (0≤li)
 all_goals
  go_enter Tryz.func178,Tryz.ntmps178
  try dsimp only [List.append]
  go_wp2_with fail
  go_ret
  exact ⟨by simp [isWd,t1],rfl⟩
theorem gread_at (st:Int) (b:Bool) (h:mayR st=b) (w:World):Calls Tryz.prog 191 #[.int .i64 st] w fun e w'=>e=.returned (.bool b)∧w=w':=h▸gread_any st w
theorem gline_at (li:Int) (b:Bool) (h:isLn li=b) (w:World):Calls Tryz.prog 177 #[.int .i64 li] w fun e w'=>e=.returned (.bool b)∧w=w':=h▸gline_any li w
theorem gword_at (li:Int) (b:Bool) (h:isWd li=b) (w:World):Calls Tryz.prog 178 #[.int .i64 li] w fun e w'=>e=.returned (.bool b)∧w=w':=h▸gword_any li w
theorem results_ms1 {fn:Func} {p:Tmp} (h:fn.results=#[.cell p 50]) (tmps:Array Value) (w:World) (b:Nat) (x:Ms) (fr:Nat×Nat)
 (hp:tmps.getD p undef=.pointer (some ⟨b,0,none⟩)) (hb:w.heap[b]? =some (.cells (msc x) 50 fr)):
 (results fn tmps).run Tryz.prog w=.ok (.agg (msc x)) w:=by
 have hp':tmps[p]?.getD undef=.pointer (some ⟨b,0,none⟩):=by simpa using hp
 have:=run_loadVar_row (P:=Tryz.prog) w b 50 50 (msc x) fr _ hb Tryz.underlying50 rfl (by rw [msc_size];kernel_rfl)
 simp [results,h,hp',asAddr,this]
theorem results_ln1 {fn:Func} {p:Tmp} (h:fn.results=#[.cell p 48]) (tmps:Array Value) (w:World) (b:Nat) (l:List Int) (hl:l.length=8) (fr:Nat×Nat)
 (hp:tmps.getD p undef=.pointer (some ⟨b,0,none⟩)) (hb:w.heap[b]? =some (.cells (vs l) 48 fr)):
 (results fn tmps).run Tryz.prog w=.ok (.agg (vs l)) w:=by
 have hp':tmps[p]?.getD undef=.pointer (some ⟨b,0,none⟩):=by simpa using hp
 have:=run_loadVar_row (P:=Tryz.prog) w b 48 48 (vs l) fr _ hb Tryz.underlying48 rfl (by rw [vs_size,hl];kernel_rfl)
 simp [results,h,hp',asAddr,this]
set_option maxRecDepth 20000 in
theorem gtold_any (kd:Int) (x:Slt) (w:World):Calls Tryz.prog 158 #[.int .i64 kd,.agg (slc x)] w fun e w'=>e=.returned (.agg (msc (toldM kd x false)))∧Chg [] w w':=by
 have hx8:=x.h
 have q:(x.st==3)=true∨((x.st==3)=false∧(x.st==9)=true)∨((x.st==3)=false∧(x.st==9)=false):=by
  cases (x.st==3)<;>cases (x.st==9)<;>simp
 have yes:x.st=3∨x.st=9→toldM kd x false=((ms4 kd x.li false false).putDi true).putL x.l x.h:=by intro h;unfold toldM;rw [if_pos h];rfl
 have no:(x.st==3)=false→(x.st==9)=false→toldM kd x false=ms4 kd x.li false false:=by
  intro h1 h2
  unfold toldM
  rw [if_neg (by simp at h1 h2;omega)]
 rcases q with q1|⟨q1,q2⟩|⟨q1,q2⟩
 ·rw [yes (.inl (by simpa using q1))]
  clear yes no
  go_enter Tryz.func158,Tryz.ntmps158
  try dsimp only [List.append]
  go_wp2_with fail
  go_region
  all_goals
   go_wp2_with fail
   refine bodyPost_ret (results_ms1 (by rfl) _ _ (w.heap.size+1) _ (0,0) (by rfl) (by simp (maxDischargeDepth:=8) [hx8];try rfl)) (by rfl) ?_
   exact ⟨rfl,by (repeat' (first |with_reducible exact Chg.refl _ _|with_reducible assumption|with_reducible refine Chg.drew ?_|with_reducible refine Chg.drewN ?_ _|with_reducible refine Chg.alloc ?_ _|with_reducible refine Chg.putRow ?_ _ _ _ (.inr ?_)|with_reducible refine Chg.setCell ?_ _ _ _ (.inr ?_)|(show _≤_;first |exact Nat.le_refl _|omega|(simp;done))))⟩
 ·rw [yes (.inr (by simpa using q2))]
  clear yes no
  go_enter Tryz.func158,Tryz.ntmps158
  try dsimp only [List.append]
  go_wp2_with fail
  go_region
  all_goals
   go_wp2_with fail
   refine bodyPost_ret (results_ms1 (by rfl) _ _ (w.heap.size+1) _ (0,0) (by rfl) (by simp (maxDischargeDepth:=8) [hx8];try rfl)) (by rfl) ?_
   exact ⟨rfl,by (repeat' (first |with_reducible exact Chg.refl _ _|with_reducible assumption|with_reducible refine Chg.drew ?_|with_reducible refine Chg.drewN ?_ _|with_reducible refine Chg.alloc ?_ _|with_reducible refine Chg.putRow ?_ _ _ _ (.inr ?_)|with_reducible refine Chg.setCell ?_ _ _ _ (.inr ?_)|(show _≤_;first |exact Nat.le_refl _|omega|(simp;done))))⟩
 ·rw [no q1 q2]
  clear yes no
  go_enter Tryz.func158,Tryz.ntmps158
  try dsimp only [List.append]
  go_wp2_with fail
  all_goals
   go_wp2_with fail
   refine bodyPost_ret (results_ms1 (by rfl) _ _ (w.heap.size+1) _ (0,0) (by rfl) (by simp;try rfl)) (by rfl) ?_
   exact ⟨rfl,by (repeat' (first |with_reducible exact Chg.refl _ _|with_reducible assumption|with_reducible refine Chg.drew ?_|with_reducible refine Chg.drewN ?_ _|with_reducible refine Chg.alloc ?_ _|with_reducible refine Chg.putRow ?_ _ _ _ (.inr ?_)|with_reducible refine Chg.setCell ?_ _ _ _ (.inr ?_)|(show _≤_;first |exact Nat.le_refl _|omega|(simp;done))))⟩
def Told (w w':World) (A:Option Addr) (ms:List Ms):Prop:=Sl w' 12 A ms.length (cat Ms.enc ms)∧∀x,A=some x→w.heap.size≤x.block
theorem Told.nil (w w':World):Told w w' none []:=⟨⟨rfl,.inl rfl⟩,by simp⟩
theorem Told.keep {w w' w'':World} {A:Option Addr} {ms:List Ms} {l:List Nat} (h:Told w w' A ms) (hc:Chg l w' w'') (hl:∀x∈l,x<w.heap.size):Told w w'' A ms:=
 ⟨h.1.chg hc (by intro a ha hm;have:=h.2 a ha;have:=hl _ hm;omega),h.2⟩
theorem Told.from {w0 w w':World} {A:Option Addr} {ms:List Ms} (h:Told w w' A ms) (hs:w0.heap.size≤w.heap.size):Told w0 w' A ms:=⟨h.1,fun x hx=>Nat.le_trans hs (h.2 x hx)⟩
theorem Told.one (w:World) (m:Ms):Told w (w.alloc (.cells (msc m) 50)) (some ⟨w.heap.size,0,none⟩) [m]:=
 ⟨⟨by rw [cat_length Ms.len],.inr ⟨w.heap.size,0,msc m,50,(0,0),rfl,by simp,by rw [cat_one];simp [msc,Ms.len,List.take_of_length_le]⟩⟩,by rintro x hx;cases hx;exact Nat.le_refl _⟩
def MsTo (w:World) (ms:List Ms):Ending→World→Prop:=fun e w'=>∃A n,e=.returned (.slice A ms.length n)∧Told w w' A ms∧Chg [] w w'
theorem MsTo.nil {w w':World} (h:Chg [] w w'):MsTo w [] (.returned (.slice none 0 0)) w':=⟨none,0,rfl,Told.nil _ _,h⟩
theorem MsTo.one {w w1:World} (h:Chg [] w w1) (m:Ms):MsTo w [m] (.returned (.slice (some ⟨w1.heap.size,0,none⟩) 1 1)) (w1.alloc (.cells (msc m) 50)):=
 ⟨_,1,rfl,(Told.one w1 m).from h.size,h.alloc _⟩
theorem MsTo.at {w w1:World} {n:Nat} (h:Chg [] w w1) (m:Ms) (hn:n=w1.heap.size):MsTo w [m] (.returned (.slice (some ⟨n,0,none⟩) 1 1)) (w1.alloc (.cells (msc m) 50)):=hn▸MsTo.one h m
theorem gwords_any (m:Ms) (x:Slt) (nx:Int) (w:World):Calls Tryz.prog 107 #[.agg (msc m),.agg (slc x),.int .i64 nx] w fun e w'=>e=.returned (.agg (vs (wordsL m x nx)))∧Chg [] w w':=by
 have hx8:=x.h
 have hm8:=m.h
 have q:((nx==5)=true∨((nx==5)=false∧(nx==8)=true))∨((nx==5)=false∧(nx==8)=false):=by
  cases (nx==5)<;>cases (nx==8)<;>simp
 rcases q with q|⟨q1,q2⟩
 ·have e1:wordsL m x nx=zl8:=by
   unfold wordsL
   rw [if_pos (by rcases q with h|⟨_,h⟩;exact .inl (by simpa using h);exact .inr (by simpa using h))]
  rw [e1]
  clear e1
  rcases q with q1|⟨q1,q2⟩
  all_goals
   go_enter Tryz.func107,Tryz.ntmps107
   try dsimp only [List.append]
   go_wp2_with fail
   refine bodyPost_ret (results_ln1 (by rfl) _ _ (w.heap.size+2) (zl8) rfl (0,0) (by rfl) (by simp (maxDischargeDepth:=8) [zl8];try rfl)) (by rfl) ?_
   exact ⟨rfl,by (repeat' (first |with_reducible exact Chg.refl _ _|with_reducible assumption|with_reducible refine Chg.drew ?_|with_reducible refine Chg.drewN ?_ _|with_reducible refine Chg.alloc ?_ _|with_reducible refine Chg.putRow ?_ _ _ _ (.inr ?_)|with_reducible refine Chg.setCell ?_ _ _ _ (.inr ?_)|(show _≤_;first |exact Nat.le_refl _|omega|(simp;done))))⟩
 ·have hn:¬(nx=5∨nx=8):=by simp at q1 q2;omega
  cases q3:(m.kd==13)
  ·rw [show wordsL m x nx=m.l by unfold wordsL;rw [if_neg hn,if_neg (by simpa using q3)]]
   clear hn
   go_enter Tryz.func107,Tryz.ntmps107
   try dsimp only [List.append]
   go_wp2_with fail
   refine bodyPost_ret (results_ln1 (by rfl) _ _ (w.heap.size+2) (m.l) m.h (0,0) (by rfl) (by simp (maxDischargeDepth:=8);try rfl)) (by rfl) ?_
   exact ⟨rfl,by (repeat' (first |with_reducible exact Chg.refl _ _|with_reducible assumption|with_reducible refine Chg.drew ?_|with_reducible refine Chg.drewN ?_ _|with_reducible refine Chg.alloc ?_ _|with_reducible refine Chg.putRow ?_ _ _ _ (.inr ?_)|with_reducible refine Chg.setCell ?_ _ _ _ (.inr ?_)|(show _≤_;first |exact Nat.le_refl _|omega|(simp;done))))⟩
  ·rw [show wordsL m x nx=x.l by unfold wordsL;rw [if_neg hn,if_pos (by simpa using q3)]]
   clear hn
   go_enter Tryz.func107,Tryz.ntmps107
   try dsimp only [List.append]
   go_wp2_with fail
   refine bodyPost_ret (results_ln1 (by rfl) _ _ (w.heap.size+2) (x.l) x.h (0,0) (by rfl) (by simp (maxDischargeDepth:=8);try rfl)) (by rfl) ?_
   exact ⟨rfl,by (repeat' (first |with_reducible exact Chg.refl _ _|with_reducible assumption|with_reducible refine Chg.drew ?_|with_reducible refine Chg.drewN ?_ _|with_reducible refine Chg.alloc ?_ _|with_reducible refine Chg.putRow ?_ _ _ _ (.inr ?_)|with_reducible refine Chg.setCell ?_ _ _ _ (.inr ?_)|(show _≤_;first |exact Nat.le_refl _|omega|(simp;done))))⟩
theorem told_ke (kd:Int) (x:Slt) (b:Bool):(toldM kd x false).putKe b=toldM kd x b:=by
 unfold toldM
 split<;>rfl
theorem ganswers_any (kd:Int) (x:Slt) (nx:Int) (w:World):Calls Tryz.prog 108 #[.int .i64 kd,.agg (slc x),.int .i64 nx] w (MsTo w (answersL kd x nx)):=by
 have hx8:=x.h
 have rX:(w.alloc (.cells (slc x) 205 (0,0))).heap[w.heap.size]? =some (.cells (slc x) 205 (0,0)):=by simp
 cases q1:(kd==12)
 ·cases q2:(kd==13)
  ·rw [show answersL kd x nx=[] by unfold answersL;rw [if_neg (by simpa using q1),if_neg (by simpa using q2)]]
   go_enter Tryz.func108,Tryz.ntmps108
   try dsimp only [List.append]
   go_wp2_with fail
   go_ret
   exact MsTo.nil (by (repeat' (first |with_reducible exact Chg.refl _ _|with_reducible assumption|with_reducible refine Chg.drew ?_|with_reducible refine Chg.drewN ?_ _|with_reducible refine Chg.alloc ?_ _|with_reducible refine Chg.putRow ?_ _ _ _ (.inr ?_)|with_reducible refine Chg.setCell ?_ _ _ _ (.inr ?_)|(show _≤_;first |exact Nat.le_refl _|omega|(simp;done)))))
  ·rw [show answersL kd x nx=[(toldM 7 x false).putKe (nx==1)] by unfold answersL;rw [if_neg (by simpa using q1),if_pos (by simpa using q2),told_ke]]
   go_enter Tryz.func108,Tryz.ntmps108
   try dsimp only [List.append]
   go_wp2_with fail
   refine (gtold_any 7 x _).mono ?_
   rintro e w2 ⟨rfl,c2⟩
   have C2:Chg [] w w2:=((Chg.refl [] w).alloc _).trans c2
   go_wp2_with fail
   go_ret
   exact MsTo.at (C2.alloc (.cells (msc ((toldM 7 x false).putKe (nx==1))) 50)) _ (by simp)
 ·rw [show answersL kd x nx=[toldM 6 x false] by unfold answersL;rw [if_pos (by simpa using q1)]]
  go_enter Tryz.func108,Tryz.ntmps108
  try dsimp only [List.append]
  go_wp2_with fail
  refine (gtold_any 6 x _).mono ?_
  rintro e w2 ⟨rfl,c2⟩
  have C2:Chg [] w w2:=((Chg.refl [] w).alloc _).trans c2
  go_wp2_with fail
  go_ret
  exact MsTo.one C2 _
end
section
set_option maxHeartbeats 1000000
attribute [local go_sem ↓] append_appS copy_copS clear_clrS make_mkS cell_row frozen_row loadLine storeLine loadSlot storeSlot heap_drew heap_drewN heap_alloc heap_past heap_setCell heap_putRow slc_st slc_li slc_us slice_slS loadMsg storeMsg loadHas storeHas msc_kd msc_li msc_di msc_ke
attribute [local go_sem] rowCell_some rowFrozen_some rowHas_some rowIn_some rowPart_full rowPut_full rowSet_some vs_size vs_one wideLine wideSlot run_loadS run_storeS run_appS run_copS run_clrS run_mkS loadW_at storeW_at fit_all fit_le one_int one_bool one_pointer one_slice allOne_list putRow_new ne_size1 ne_size2 zero8_length lines_nil line_eq lit8 slc_size slc_one slc_part fold_slt fold_slc slc_set_us wideMsg wideHas run_slS msc_size msc_one msc_part fold_msc msc_putDi msc_putKe msc_putX ms4_lit ms4_k ms4_l
attribute [local simp ↓] heap_drew heap_drewN heap_alloc heap_past heap_setCell heap_putRow
attribute [local simp] rowCell_some rowFrozen_some rowHas_some rowIn_some rowPart_full rowPut_full rowSet_some vs_size fit_all putRow_new ne_size1 ne_size2 zero8_length slc_size msc_size msc_putDi msc_putKe msc_putX fit_le ms4_k ms4_l
def Agt (W w:World) (g a b S N:Nat) (s:Sta):Prop:=
 ASys W w a b S N s.1 s.2∧w.heap[g]? =some (.cells #[.pointer (some ⟨a,0,none⟩)] 209 (0,0))∧W.heap.size≤g∧g∉[a,b]∧Sane s.1∧0≤s.2
section
variable {W w w':World} {g a b S N:Nat} {s s':Sta} (h:Agt W w g a b S N s)
include h
theorem Agt.keep (hc:Chg [] w w'):Agt W w' g a b S N s:=⟨h.1.keep hc,hc.keep h.2.1 (by simp),h.2.2⟩
theorem Agt.arr:Arr w a b S N s.1 s.2:=h.1.2.1
theorem Agt.good:Good S N s.1:=h.1.good
theorem Agt.sane:Sane s.1:=h.2.2.2.2.1
theorem Agt.pos:0≤s.2:=h.2.2.2.2.2
theorem Agt.new3 {k:Nat} (hk:w.heap.size≤k):k∉[g,a,b]:=by
 have h1:=h.1.new2 hk
 have h2:=lt_heap h.2.1
 simp at h1 ⊢
 omega
theorem Agt.new2 {k:Nat} (hk:w.heap.size≤k):k∉[a,b]:=h.1.new2 hk
theorem Agt.apart {k:Nat} (hc:Chg [k] w w') (hk:k∉[g,a,b]) (hw:W.heap.size≤k):Agt W w' g a b S N s:=by
 have h1:g∉[k]∧a∉[k]∧b∉[k]:=by simp at hk ⊢;omega
 exact ⟨⟨h.1.1.trans' hc (by simp [hw]),h.1.2.1.keep hc h1.2.1 h1.2.2,h.1.2.2⟩,hc.keep h.2.1 h1.1,h.2.2⟩
theorem Agt.old2:∀x∈[a,b],x<w.heap.size:=by
 have h1:=lt_heap h.arr.1
 have h2:=lt_heap h.arr.2.1
 intro x hx
 simp at hx
 rcases hx with rfl|rfl<;>assumption
theorem Agt.step (hs:ASys W w' a b S N s'.1 s'.2) (hc:Chg [a,b] w w') (h1:Sane s'.1) (h2:0≤s'.2):Agt W w' g a b S N s':=
 ⟨hs,hc.keep h.2.1 h.2.2.2.1,h.2.2.1,h.2.2.2.1,h1,h2⟩
end
def AgRet (W w:World) (g a b S N:Nat) (s:Sta) (f:Value→Value) (ms:List Ms):Ending→World→Prop:=fun e w'=>
 ∃A n,e=.returned (f (.slice A ms.length n))∧Told w w' A ms∧Agt W w' g a b S N s∧Chg [a,b] w w'
theorem Agt.calls {W w:World} {g a b S N:Nat} {s s':Sta} (h:Agt W w g a b S N s) {v:Value} {f:FuncId} {args:Array Value} (h1:Sane s'.1) (h2:0≤s'.2)
 (hc:Calls Tryz.prog f args w (ASysTo W w a b S N s'.1 s'.2 v)):Calls Tryz.prog f args w fun e w'=>e=.returned v∧Agt W w' g a b S N s'∧Chg [a,b] w w':=
 hc.mono fun e w' ⟨he,hs,hc⟩=>⟨he,h.step hs hc h1 h2,hc⟩
section
variable {W w:World} {g a b S N:Nat} {s:Sta} (h:Agt W w g a b S N s)
include h
theorem gset_any (hu:s.2≤1000000000) (li st:Int) (l:List Int) (hl:l.length=8):Calls Tryz.prog 106 #[.pointer (some ⟨a,0,none⟩),.int .i64 li,.int .i64 st,.agg (vs l)] w
 fun e w'=>e=.returned (.int .i64 (setVal S N s.1 li st))∧Agt W w' g a b S N (setS S N s li st l hl)∧Chg [a,b] w w':=
 h.calls (h.sane.set li st l hl) (Int.le_trans h.pos setS_u.1) (sys_set h.1 h.pos hu li st l hl)
theorem gsetz_any (hu:s.2≤1000000000) (li st:Int):Calls Tryz.prog 106 #[.pointer (some ⟨a,0,none⟩),.int .i64 li,.int .i64 st,.agg #[.int .u64 0,.int .u64 0,.int .u64 0,.int .u64 0,.int .u64 0,.int .u64 0,.int .u64 0,.int .u64 0]] w
 fun e w'=>e=.returned (.int .i64 (setVal S N s.1 li st))∧Agt W w' g a b S N (setS S N s li st zl8 rfl)∧Chg [a,b] w w':=gset_any h hu li st zl8 rfl
theorem gtouch_any (hu:s.2≤1000000000) (li:Int):Calls Tryz.prog 192 #[.pointer (some ⟨a,0,none⟩),.int .i64 li] w
 fun e w'=>e=.returned (.tuple #[])∧Agt W w' g a b S N (touchS s li)∧Chg [a,b] w w':=
 h.calls (h.sane.touch li) (Int.le_trans h.pos touchS_u.1) (sys_touch h.1 h.pos hu li)
theorem gdrop_any (li:Int):Calls Tryz.prog 105 #[.pointer (some ⟨a,0,none⟩),.int .i64 li] w
 fun e w'=>e=.returned (.bool (dropVal s.1 li))∧Agt W w' g a b S N (dropS s li)∧Chg [a,b] w w':=
 h.calls (h.sane.drop li) (Int.le_trans h.pos dropS_u.1) (sys_drop h.1 li)
theorem gfind_any (li:Int):Calls Tryz.prog 104 #[.pointer (some ⟨a,0,none⟩),.int .i64 li] w
 fun e w'=>e=.returned (.tuple #[.agg (slc (findVal s.1 li)),.bool (dropVal s.1 li)])∧Chg [] w w':=afind_any a b S N s.1 s.2 li w h.arr
theorem groom_any (li:Int):Calls Tryz.prog 202 #[.pointer (some ⟨a,0,none⟩),.int .i64 li] w
 fun e w'=>e=.returned (.tuple #[.bool (roomFree S N s.1 li),.int .i64 (roomVic S N s.1 li)])∧Chg [] w w':=aroom_any a b S N s.1 s.2 li w h.arr
end
theorem gslots_any {W:World} {g a b S N:Nat} {s:Sta} (w:World) (h:Agt W w g a b S N s):Calls Tryz.prog 201 #[.pointer (some ⟨g,0,none⟩)] w (SlotsTold w (live s.1)):=by
 have H:=Lib.hid h
 have rG:=h.2.1
 clear h
 go_enter Tryz.func201,Tryz.ntmps201
 try dsimp only [List.append]
 go_wp2_with fail
 refine (aslots_ok a b S N s.1 s.2 w H.out.arr).mono ?_
 rintro e w2 ⟨A,c,rfl,hs,c2⟩
 have HS:=Lib.hid hs
 have HC:=Lib.hid c2
 clear hs c2
 go_wp2_with fail
 go_ret
 exact ⟨A,c,rfl,HS.out,HC.out⟩
theorem gowns_any {W:World} {g a b S N:Nat} {s:Sta} (li:Int) (w:World) (h:Agt W w g a b S N s):Calls Tryz.prog 175 #[.pointer (some ⟨g,0,none⟩),.int .i64 li] w fun e w'=>e=.returned (.bool (ownsB s.1 li))∧Chg [] w w':=by
 have H:=Lib.hid h
 have rG:=h.2.1
 clear h
 go_enter Tryz.func175,Tryz.ntmps175
 try dsimp only [List.append]
 go_wp2_with fail
 refine (gfind_any H.out li).mono ?_
 rintro e w2 ⟨rfl,c2⟩
 go_wp2_with (go_at_call 179;refine (gwrite_any _ _).mono ?_;rintro e w' ⟨rfl,rfl⟩)
 go_ret
 exact ⟨rfl,by (repeat' (first |with_reducible exact Chg.refl _ _|with_reducible assumption|with_reducible refine Chg.drew ?_|with_reducible refine Chg.drewN ?_ _|with_reducible refine Chg.alloc ?_ _|with_reducible refine Chg.putRow ?_ _ _ _ (.inr ?_)|with_reducible refine Chg.setCell ?_ _ _ _ (.inr ?_)|with_reducible refine Chg.trans ?_ c2|with_reducible refine Chg.trans (b:=World.drew _) ?_ c2|(show _≤_;first |exact Nat.le_refl _|omega|(simp;done))))⟩
theorem slt_whole {w wr:World} {l:List Nat} {n b o k:Nat} {ys:List Slt} {y:Slt} (h:Sl w 11 (some ⟨b,o,none⟩) n (cat Slt.enc ys)) (hc:Chg l w wr) (hb:b∉l) (hk:k<n) (hy:ys[k]? =some y):
 ∃c t f,wr.heap[b]? =some (.cells c t f)∧rowIn (some (.cells c t f)) (o+k*11) 11=true∧rowPart (some (.cells c t f)) (o+k*11) 11=slc y:=by
 obtain ⟨cs,t,f,hb,_,hpa⟩:=(h.chg hc (by simpa using hb)).elem (by omega) hk (cat_part Slt.len hy)
 obtain ⟨r1,r2⟩:=hpa 0 11 (by omega)
 rw [Nat.add_zero] at r1 r2
 refine ⟨cs,t,f,hb,r1,?_⟩
 rw [r2]
 simp [slc,Slt.len,List.take_of_length_le]
theorem idle_live (xs:List Slt):idleB xs=(live xs).all (fun x=>atRest x.st):=by
 unfold idleB live
 rw [List.all_filter]
 congr 1
 funext x
 unfold restB
 cases h:(x.st==0)<;>simp [bne,h]
theorem gidle_any {W:World} {g a b S N:Nat} {s:Sta} (w:World) (h:Agt W w g a b S N s):Calls Tryz.prog 193 #[.pointer (some ⟨g,0,none⟩)] w fun e w'=>e=.returned (.bool (idleB s.1))∧Chg [] w w':=by
 have H:=Lib.hid h
 have rG:=h.2.1
 clear h
 have hsl:=gslots_any w H.out
 rw [idle_live]
 obtain ⟨ys,hys⟩:∃ys,ys=live s.1:=⟨_,rfl⟩
 rw [←hys] at hsl ⊢
 go_enter Tryz.func193,Tryz.ntmps193
 try dsimp only [List.append]
 go_wp2_with fail
 refine hsl.mono ?_
 rintro e w2 ⟨A,cp,rfl,hs,c2⟩
 have hl:ys.length≤64:=by rw [hys];exact Nat.le_trans (live_le _) H.out.good.len64
 have HS:=Lib.hid hs
 have HC:=Lib.hid c2
 obtain ⟨n,hn⟩:∃n,n=ys.length:=⟨_,rfl⟩
 rw [←hn] at HS hl ⊢
 have HN:=Lib.hid hn
 clear hs c2 hys rG hn hsl
 go_wp2_with fail
 go_loopw [8] (fun i wr=>∃k:Nat,k≤n∧i=.int .i64 k∧Chg [] w2 wr∧∀x∈ys.take k,atRest x.st=true) (fun i _=>n-(intOf i).toNat)
 case atStart=>exact ⟨0,by omega,rfl,Chg.refl _ _,by simp⟩
 case round=>
  obtain ⟨k,hk,rfl,hc,hall⟩:=hrel
  by_cases hlt:k<n
  ·obtain ⟨b1,o1,rfl⟩:=HS.out.addr (by omega)
   obtain ⟨y,hy⟩:∃y,ys[k]? =some y:=⟨ys[k]'(by rw [←HN.out];exact hlt),List.getElem?_eq_getElem _⟩
   obtain ⟨cs,tt,f,hb,i1,i2⟩:=slt_whole HS.out hc (by simp) hlt hy
   have g1:(k:Int)<(n:Int):=by omega
   have g0:(0:Int)≤(k:Int):=by omega
   have g2:(n:Int)≤64:=by omega
   have HA:=Lib.hid hall
   have HK:=Lib.hid hc
   have ht:=List.take_succ_eq_append_getElem (by rw [←HN.out];exact hlt:k<ys.length)
   rw [show ys[k]'(by rw [←HN.out];exact hlt)=y from (List.getElem?_eq_some_iff.1 hy).2] at ht
   have HT:=Lib.hid ht
   have HY:=Lib.hid hy
   clear hall hc ht hy
   cases hr:atRest y.st
   ·go_wp2_with (go_at_call 200;refine (grest_at _ _ hr _).mono ?_;rintro e w' ⟨rfl,rfl⟩)
    go_ret
    refine ⟨?_,(HC.out.trans HK.out).alloc _⟩
    have:ys.all (fun x=>atRest x.st)=false:=by
     rw [List.all_eq_false]
     exact ⟨y,List.mem_of_getElem? HY.out,by simp [hr]⟩
    rw [this]
    rfl
   ·go_wp2_with (go_at_call 200;refine (grest_at _ _ hr _).mono ?_;rintro e w' ⟨rfl,rfl⟩)
    go_roundw
    case rel=>
     refine ⟨k+1,by omega,by go_num,HK.out.alloc _,?_⟩
     rw [HT.out]
     intro x hx
     rcases List.mem_append.1 hx with h1|h1
     ·exact HA.out x h1
     ·rw [List.mem_singleton.1 h1];exact hr
    case measure=>simp [intOf];omega
  ·obtain rfl:k=n:=by omega
   have HA:=Lib.hid hall
   have HK:=Lib.hid hc
   clear hall hc
   go_wp2_with fail
   go_ret
   refine ⟨?_,HC.out.trans HK.out⟩
   have:ys.all (fun x=>atRest x.st)=true:=by
    rw [List.all_eq_true]
    intro x hx
    exact HA.out x (by rw [HN.out,List.take_length];exact hx)
   rw [this]
   rfl
theorem gidle_at {W:World} {g a b S N:Nat} {s:Sta} (v:Bool) (hv:idleB s.1=v) (w:World) (h:Agt W w g a b S N s):Calls Tryz.prog 193 #[.pointer (some ⟨g,0,none⟩)] w fun e w'=>e=.returned (.bool v)∧Chg [] w w':=hv▸gidle_any w h
theorem gowns_at {W:World} {g a b S N:Nat} {s:Sta} (li:Int) (v:Bool) (hv:ownsB s.1 li=v) (w:World) (h:Agt W w g a b S N s):Calls Tryz.prog 175 #[.pointer (some ⟨g,0,none⟩),.int .i64 li] w fun e w'=>e=.returned (.bool v)∧Chg [] w w':=hv▸gowns_any li w h
end
end Go.Proofs.YtcjoinhngdfdmaaGreatDoor
