/- What a statement of layer 13 needs further: by parts. No condition. -/
import Derived.Test.YtcjoinhngdfdmaaGreatDoorCFd
import Derived.Test.YtcjoinhngdfdmaaGreatDoorCFh
section
namespace Go.Proofs.YtcjoinhngdfdmaaGreatDoor
open Go.RowKit
set_option linter.unusedVariables false
set_option maxHeartbeats 1000000
set_option maxRecDepth 100000
attribute [local go_sem ↓] append_appS copy_copS clear_clrS make_mkS cell_row frozen_row loadLine storeLine loadSlot storeSlot heap_drew heap_drewN heap_alloc heap_past heap_setCell heap_putRow vs_get slc_st slc_li slc_us slice_slS loadMsg storeMsg loadHas storeHas msc_kd msc_li msc_di msc_ke
attribute [local go_sem] rowCell_some rowFrozen_some rowHas_some rowIn_some rowPart_full rowPart_lit rowPut_full rowPut_lit rowSet_some size_putRow vs_size vs_one wideLine wideSlot run_loadS run_storeS run_appS run_copS run_clrS run_mkS loadW_at storeW_at fit_all fit_le one_int one_bool one_pointer one_slice allOne_list putRow_new ne_size1 ne_size2 ne_size3 ne_size4 zero8_length lines_nil line_eq lit8 slc_size slc_one slc_part slc_in fold_slt fold_slc slc_set_us wideMsg wideHas run_slS msc_size msc_one msc_part msc_in fold_msc msc_putDi msc_putKe msc_putX msc_has ms4_lit
attribute [local simp ↓] heap_drew heap_drewN heap_alloc heap_past heap_setCell heap_putRow
attribute [local simp] rowCell_some rowFrozen_some rowHas_some rowIn_some rowPart_full rowPart_lit rowPut_full rowPut_lit rowSet_some size_putRow vs_size fit_all putRow_new ne_size1 ne_size2 ne_size3 ne_size4 zero8_length slc_size msc_size msc_putDi msc_putKe msc_putX msc_has fit_le
attribute [local go_sem ↓] ec_he ec_di ec_ow ec_sh ec_bu ec_by ec_wa sc_to
attribute [local go_sem] mi_and mi_or mi_not mi_beq0 mi_bne0 ec_size ec_one ec_part ec_in ec_has ec_setDi ec_setOw ec_setSh ec_setBu ec_setBy ec_setWa ec_setSh0 ec_setWa0 ec_putM sc_size sc_one sc_part sc_in
attribute [local simp] ec_size sc_size ec_setDi ec_setOw ec_setSh ec_setBu ec_setBy ec_setWa ec_setSh0 ec_setWa0 ec_putM
attribute [local go_sem ↓] loadEn storeEn loadSd storeSd en_z0
attribute [local go_sem] wideEn wideSd fold_sc size11 putRow_newB putRow_newC ms5_lit
attribute [local simp] en_z0 putRow_newB putRow_newC fit_le ec_has
attribute [local go_sem ↓] mlitZ zenc_po zenc_en zenc_q
attribute [local simp] mlitZ
theorem cat_row {α:Type} {k:Nat} {enc:α→List Value} (hk:∀a,(enc a).length=k):∀(xs:List α) (i:Nat) (a b:α),xs[i]? =some a→splice (cat enc xs) (i*k) (enc b)=cat enc (xs.set i b)
 |[],i,a,b,h=>by simp at h
 |x::xs,0,a,b,h=>by
  simp only [List.set_cons_zero,cat_cons,Nat.zero_mul]
  unfold splice
  rw [List.take_zero,List.nil_append,Nat.zero_add,hk b,←hk x,List.drop_left]
 |x::xs,i+1,a,b,h=>by
  simp only [List.getElem?_cons_succ] at h
  have ih:=cat_row hk xs i a b h
  simp only [List.set_cons_succ,cat_cons]
  rw [←ih]
  unfold splice
  have e:(i+1)*k=(enc x).length+i*k:=by rw [hk,Nat.add_mul];omega
  rw [e,List.take_append,List.take_of_length_le (by omega),show (enc x).length+i*k-(enc x).length=i*k by omega,Nat.add_assoc,List.drop_append,List.drop_eq_nil_of_le (by omega),show (enc x).length+(i*k+(enc b).length)-(enc x).length=i*k+(enc b).length by omega]
  simp
theorem sq_putRow {α:Type} {k:Nat} {enc:α→List Value} (hk:∀a,(enc a).length=k) {xs:List α} {i:Nat} {a:α} (b:α) (h:xs[i]? =some a) (t:TypeId) (f:Nat×Nat):rowPut (some (.cells (sq enc xs []) t f)) (i*k) (enc b).toArray=some (.cells (sq enc (xs.set i b) []) t f):=by
 rw [rowPut_some,sq_toList,List.append_nil,List.toList_toArray,cat_row hk xs i a b h]
 unfold sq
 rw [List.append_nil]
theorem erow {en:List En} {i:Nat} {e:En} (h:en[i]? =some e) (t:TypeId) (f:Nat×Nat):rowPart (some (.cells (sq En.enc en []) t f)) (i*15) 15=ec e:=by
 have:=rowPart_sq En.len h [] t f 0 15 (by omega)
 rw [Nat.add_zero] at this
 rw [this,List.drop_zero,List.take_of_length_le (by rw [En.len];exact Nat.le_refl _)]
 rfl
theorem erowIn {en:List En} {i:Nat} {e:En} (h:en[i]? =some e) (t:TypeId) (f:Nat×Nat):rowIn (some (.cells (sq En.enc en []) t f)) (i*15) 15=true:=rowIn_sq En.len (List.getElem?_eq_some_iff.1 h).1 [] t f 0 15 (by omega)
theorem erowHas {en:List En} {i:Nat} {e:En} (h:en[i]? =some e) (t:TypeId):rowHas (some (.cells (sq En.enc en []) t (0,0))) (i*15) 15=true:=by
 have:=erowIn h t (0,0)
 rw [rowIn_some] at this
 rw [rowHas_some];exact this
attribute [local go_sem] ec_setHe'
attribute [local simp] ec_setHe'
section
variable {W:World} {c:Cg} {z:Lay} {L:List (Po×Pt)} {en:List En} {es:List Ent} {xs:List Int}
def hereE (e:En) (l:List Int) (h:l.length=8):En:=if e.he=true then e else (e.setHe true).setL l h
theorem zhere_ok (i:Nat) (e:En) (w:World) (h:Msd W w c z L en es xs) (he:en[i]? =some e) (l:List Int) (hl:l.length=8) (hX:ln (over xs es) i=l):
 Calls Tryz.prog 56 #[.pointer (some ⟨z.sy,0,none⟩),.int .i64 i] w fun r w'=>r=.returned (.agg (ec (hereE e l hl)))∧∃be',MTo W w c z L {z with be:=be'} L en es xs w':=by
 have hi:i<c.li:=by rw [←h.lines];exact (List.getElem?_eq_some_iff.1 he).1
 have rS:=h.sys
 have rE:=h.ents
 have oS:=old rS
 have oE:=old rE
 have p0:=fun t f=>erow he t f
 have p1:=fun t f=>erowIn he t f
 have g0:(0:Int)≤(i:Int):=by omega
 have g1:(i:Int)<(c.li:Int):=by omega
 have HH:=Lib.hid h
 have HI:=Lib.hid hi
 have HX:=Lib.hid hX
 cases hh:e.he
 ·have HE:=Lib.hid (show hereE e l hl=(e.setHe true).setL l hl by unfold hereE;rw [if_neg (by simp [hh])])
  clear h he hi hX
  go_enter Tryz.func56,Tryz.ntmps56
  try dsimp only [List.append]
  have r1:((w.alloc (.cells (ec enZ) 129)).alloc (.cells (ec e) 129)).heap[w.heap.size]? =some (.cells (ec enZ) 129 (0,0)):=by simp
  have r2:((w.alloc (.cells (ec enZ) 129)).alloc (.cells (ec e) 129)).heap[w.heap.size+1]? =some (.cells (ec e) 129 (0,0)):=by simp
  have C2:=Lib.hid (((Chg.refl [] w).alloc (.cells (ec enZ) 129)).alloc (.cells (ec e) 129))
  go_upto_region 2 with fail
  clear p0 p1 rE oE
  generalize hb1:w.heap.size=b1 at r1 r2 ⊢
  generalize (w.alloc (.cells (ec enZ) 129)).alloc (.cells (ec e) 129)=w2 at r1 r2 C2 ⊢
  have o1:=old r1
  have o2:=old r2
  replace rS:=C2.out.keep rS (by simp)
  replace oS:=old rS
  have HB1:=Lib.hid hb1
  have NS:=lt_heap HH.out.sys
  have ns1:z.sy≠b1:=by rw [←hb1];omega
  have ns2:z.sy≠b1+1:=by rw [←hb1];omega
  have ns3:b1≠z.sy:=Ne.symm ns1
  have ns4:b1+1≠z.sy:=Ne.symm ns2
  clear hb1 NS
  have r3:(w2.setCell ⟨b1+1,0,none⟩ (.bool true)).heap[b1+1]? =some (.cells (ec (e.setHe true)) 129 (0,0)):=by simp [r2]
  have r4:(w2.setCell ⟨b1+1,0,none⟩ (.bool true)).heap[b1]? =some (.cells (ec enZ) 129 (0,0)):=by simp [r1]
  have C3:=Lib.hid (C2.out.setCell (b1+1) 0 (.bool true) (.inr (by rw [HB1.out];omega)))
  go_wp2_with fail
  generalize w2.setCell ⟨b1+1,0,none⟩ (.bool true)=w3 at r3 r4 C3 ⊢
  clear r1 r2 o1 o2 C2
  refine (sys_read (HH.out.keep C3.out).mem i HI.out).mono ?_
  rintro r w4 ⟨rfl,be',hs4,hc4,hb4⟩
  rw [HX.out]
  have NB:∀k,w.heap.size≤k→k∉[z.q,z.be,z.g,z.b]:=fun k hk=>HH.out.mem.new4 hk
  have r5:=hc4.keep r3 (NB _ (by rw [HB1.out];omega))
  have r6:=hc4.keep r4 (NB _ (by rw [HB1.out];omega))
  have o5:=old r5
  have o6:=old r6
  have NL:=Lib.hid (show ∀k∈[b1+1,b1],W.heap.size≤k∧w.heap.size≤k∧k∉({z with be:=be'}:Lay).all L by
   have h1:=((HH.out.keep C3.out).memory hs4 hc4 hb4).2.2
   have h2:=HH.out.old
   have h3:=HH.out.chg.size
   have h4:=lt_heap r3
   have h5:=HB1.out
   intro k hk
   simp only [List.mem_cons,List.not_mem_nil,or_false] at hk
   refine ⟨by omega,by omega,fun hm=>?_⟩
   rcases h1 k hm with h6|h6
   ·have:=h2 k h6;omega
   ·omega)
  have M4:=Lib.hid ((HH.out.stay C3.out).trans ((HH.out.keep C3.out).memory hs4 hc4 hb4))
  clear r3 r4 C3 rS oS hs4 hc4 hb4 NB
  have p2:∀t f,rowPut (some (.cells (ec (e.setHe true)) t f)) 2 (vs l)=some (.cells (ec ((e.setHe true).setL l hl)) t f):=fun t f=>ec_put _ l hl t f
  have hv:(vs l).size=8:=by rw [vs_size];exact hl
  go_wp2_with fail
  have HE2:=HE.out
  refine bodyPost_ret (v:=.agg (ec ((e.setHe true).setL l hl))) ?_ (by rfl) ?_
  ·exact results_en1 (by rfl) _ _ b1 ((e.setHe true).setL l hl) (0,0) (by rfl) (by rw [heap_putRow _ _ _ _ _ (by rw [heap_putRow _ _ _ _ _ (by rw [r5,hv];exact ec_has _ _),if_neg (by omega),r6,ec_size];rfl),if_pos rfl,heap_putRow _ _ _ _ _ (by rw [r5,hv];exact ec_has _ _),if_neg (by omega),r6,rowPut_full _ _ _ _ (by rw [ec_size,ec_size])])
  rw [HE2]
  exact ⟨rfl,be',M4.out.loc (((Chg.refl [b1+1,b1] w4).putRow (b1+1) 2 (vs l) (.inl (by simp))).putRow b1 0 _ (.inl (by simp))) NL.out⟩
 ·have HE:=Lib.hid (show hereE e l hl=e by unfold hereE;rw [if_pos hh])
  clear h he hi hX
  go_enter Tryz.func56,Tryz.ntmps56
  try dsimp only [List.append]
  go_wp2_with fail
  refine bodyPost_ret (v:=.agg (ec e)) ?_ (by rfl) ?_
  ·exact results_en1 (by rfl) _ _ w.heap.size e (0,0) (by rfl) (by simp [*])
  rw [HE.out]
  exact ⟨rfl,z.be,HH.out.stay (by (repeat' (first |with_reducible exact Chg.refl _ _|with_reducible assumption|with_reducible refine Chg.drew ?_|with_reducible refine Chg.drewN ?_ _|with_reducible refine Chg.alloc ?_ _|with_reducible refine Chg.putRow ?_ _ _ _ (.inr ?_)|with_reducible refine Chg.setCell ?_ _ _ _ (.inr ?_)|(show _≤_;first |exact Nat.le_refl _|omega|(simp;done)))))⟩
end
end Go.Proofs.YtcjoinhngdfdmaaGreatDoor
end
section
namespace Go.Proofs.YtcjoinhngdfdmaaGreatDoor
open Go.RowKit
set_option linter.unusedVariables false
set_option maxHeartbeats 1000000
set_option maxRecDepth 100000
attribute [local go_sem ↓] append_appS copy_copS clear_clrS make_mkS cell_row frozen_row loadLine storeLine loadSlot storeSlot heap_drew heap_drewN heap_alloc heap_past heap_setCell heap_putRow vs_get slc_st slc_li slc_us slice_slS loadMsg storeMsg loadHas storeHas msc_kd msc_li msc_di msc_ke
attribute [local go_sem] rowCell_some rowFrozen_some rowHas_some rowIn_some rowPart_full rowPart_lit rowPut_full rowPut_lit rowSet_some size_putRow vs_size vs_one wideLine wideSlot run_loadS run_storeS run_appS run_copS run_clrS run_mkS loadW_at storeW_at fit_all fit_le one_int one_bool one_pointer one_slice allOne_list putRow_new ne_size1 ne_size2 ne_size3 ne_size4 zero8_length lines_nil line_eq lit8 slc_size slc_one slc_part slc_in fold_slt fold_slc slc_set_us wideMsg wideHas run_slS msc_size msc_one msc_part msc_in fold_msc msc_putDi msc_putKe msc_putX msc_has ms4_lit
attribute [local simp ↓] heap_drew heap_drewN heap_alloc heap_past heap_setCell heap_putRow
attribute [local simp] rowCell_some rowFrozen_some rowHas_some rowIn_some rowPart_full rowPart_lit rowPut_full rowPut_lit rowSet_some size_putRow vs_size fit_all putRow_new ne_size1 ne_size2 ne_size3 ne_size4 zero8_length slc_size msc_size msc_putDi msc_putKe msc_putX msc_has fit_le
attribute [local go_sem ↓] ec_he ec_di ec_ow ec_sh ec_bu ec_by ec_wa sc_to
attribute [local go_sem] mi_and mi_or mi_not mi_beq0 mi_bne0 ec_size ec_one ec_part ec_in ec_has ec_setDi ec_setOw ec_setSh ec_setBu ec_setBy ec_setWa ec_setSh0 ec_setWa0 ec_putM sc_size sc_one sc_part sc_in
attribute [local simp] ec_size sc_size ec_setDi ec_setOw ec_setSh ec_setBu ec_setBy ec_setWa ec_setSh0 ec_setWa0 ec_putM
attribute [local go_sem ↓] loadEn storeEn loadSd storeSd en_z0
attribute [local go_sem] wideEn wideSd fold_sc size11 putRow_newB putRow_newC ms5_lit
attribute [local simp] en_z0 putRow_newB putRow_newC fit_le ec_has
attribute [local go_sem ↓] mlitZ zenc_po zenc_en zenc_q
attribute [local simp] mlitZ
section
variable {W:World} {c:Cg} {z:Lay} {L:List (Po×Pt)} {en:List En} {es:List Ent} {xs:List Int}
theorem sd_whole {w wr:World} {l:List Nat} {n b o k:Nat} {ys:List Sd} {y:Sd} (h:Sl w 13 (some ⟨b,o,none⟩) n (cat Sd.enc ys)) (hc:Chg l w wr) (hb:b∉l) (hk:k<n) (hy:ys[k]? =some y):
 ∃c t f,wr.heap[b]? =some (.cells c t f)∧rowIn (some (.cells c t f)) (o+k*13) 13=true∧rowPart (some (.cells c t f)) (o+k*13) 13=sc y:=by
 obtain ⟨cs,t,f,hb,_,hpa⟩:=(h.chg hc (by simpa using hb)).elem (by omega) hk (cat_part Sd.len hy)
 obtain ⟨r1,r2⟩:=hpa 0 13 (by omega)
 rw [Nat.add_zero] at r1 r2
 refine ⟨cs,t,f,hb,r1,?_⟩
 rw [r2]
 simp [sc,Sd.len,List.take_of_length_le]
theorem ports_at {L:List (Po×Pt)} {i:Nat} {p:Po} {x:Pt} (h:L[i]? =some (p,x)):(ports L)[i]? =some x:=by unfold ports;rw [List.getElem?_map,h];rfl
theorem sendP_snoc (ps:List Pt) (l:List Sd) (d:Sd):sendP ps (l++[d])=sendTo (sendP ps l) d:=by unfold sendP;rw [List.foldl_append];rfl
theorem sendTo_some {ps:List Pt} {k:Nat} {x:Pt} {m:Ms} (h:ps[k]? =some x):sendTo ps ⟨(k:Int),m⟩=ps.set k {x with dn:=x.dn++[m]}:=by
 unfold sendTo
 rw [show (⟨(k:Int),m⟩:Sd).to.toNat=k from rfl,h]
theorem sendP_dn (l:List Sd):∀(ps:List Pt) (M:Nat),(∀x∈ps,x.dn.length≤M)→∀x∈sendP ps l,x.dn.length≤M+l.length:=by
 induction l with
 |nil=>intro ps M h x hx;have:=h x hx;simp;omega
 |cons d l ih=>
  intro ps M h x hx
  have:=ih (sendTo ps d) (M+1) (by
   intro y hy
   unfold sendTo at hy
   split at hy
   ·rename_i x0 hx0
    rcases List.mem_or_eq_of_mem_set hy with h1|rfl
    ·have:=h y h1;omega
    ·have:=h x0 (List.mem_of_getElem? hx0);simp;omega
   ·have:=h y hy;omega) x hx
  simp;omega
theorem zbecome_ok (i:Nat) (e e':En) (B:Option Addr) (n nc:Nat) (ds:List Sd) (w:World) (h:Msd W w c z L en es xs) (hT:Tab W) (he:en[i]? =some e) (hn:n=ds.length) (hS:Sl w 13 B n (cat Sd.enc ds)) (hA:0<n→∀a,B=some a→a.block∉z.all L)
 (hto:∀d∈ds,0≤d.to∧d.to<c.co∧mg d.m=true) (M:Nat) (hM:∀x∈ports L,x.dn.length≤M) (hMn:M+n≤1000):
 Calls Tryz.prog 58 #[.pointer (some ⟨z.sy,0,none⟩),.int .i64 i,.agg (ec e'),.slice B n nc] w fun r w'=>r=.returned (.tuple #[])∧∃L',MTo W w c z L z L' (en.set i e') es xs w'∧ports L'=sendP (ports L) ds:=by
 have hi:i<c.li:=by rw [←h.lines];exact (List.getElem?_eq_some_iff.1 he).1
 have rS:=h.sys
 have rE:=h.ents
 have oS:=old rS
 have oE:=old rE
 have p0:=fun t=>erowHas he t
 have p1:=fun t f=>sq_putRow En.len e' he t f
 have p2:∀t f,rowPut (some (.cells (sq En.enc en []) t f)) (i*15) (ec e')=some (.cells (sq En.enc (en.set i e') []) t f):=p1
 have g0:(0:Int)≤(i:Int):=by omega
 have g1:(i:Int)<(c.li:Int):=by omega
 have gn:(n:Int)≤1000:=by omega
 have HH:=Lib.hid h
 have HT:=Lib.hid hT
 have HN:=Lib.hid hn
 have HS:=Lib.hid hS
 have HA:=Lib.hid hA
 have HO:=Lib.hid hto
 have HX:=Lib.hid hM
 have HY:=Lib.hid hMn
 have NE:=Lib.hid (show z.sy≠z.en from h.ne6.1.2.2.2.2)
 have nse:z.sy≠z.en:=NE.out
 have nes:z.en≠z.sy:=Ne.symm nse
 clear h he hi hT hn hS hA hto hM hMn p1
 go_enter Tryz.func58,Tryz.ntmps58
 try dsimp only [List.append]
 go_upto_region 1 with fail
 have r1:(w.alloc (.cells (ec e') 129)).heap[w.heap.size]? =some (.cells (ec e') 129 (0,0)):=by simp
 have C1:=Lib.hid ((Chg.refl [] w).alloc (.cells (ec e') 129))
 have nsb:z.sy≠w.heap.size:=by have:=oS.lt;omega
 have neb:z.en≠w.heap.size:=by have:=oE.lt;omega
 generalize w.heap.size=b1 at r1 nsb neb ⊢
 generalize w.alloc (.cells (ec e') 129)=w2 at r1 C1 ⊢
 replace rS:=C1.out.keep rS List.not_mem_nil
 replace rE:=C1.out.keep rE List.not_mem_nil
 have o1:=old r1
 replace oS:=old rS
 replace oE:=old rE
 go_region
 have q1:(putRow w2.drew z.en (i*15) (ec e')).heap[z.en]? =some (.cells (sq En.enc (en.set i e') []) 129 (0,0)):=by
  rw [heap_putRow _ _ _ _ _ (by rw [heap_drew,rE,ec_size];exact p0 _),if_pos rfl,heap_drew,rE]
  exact p2 _ _
 have q2:(putRow w2.drew z.en (i*15) (ec e')).heap[z.sy]? =some (.cells (z.enc c).toArray 91 (0,0)):=by
  rw [heap_putRow _ _ _ _ _ (by rw [heap_drew,rE,ec_size];exact p0 _),if_neg nse,heap_drew,rS]
 have c3:Chg [z.en] w2 (putRow w2.drew z.en (i*15) (ec e')):=((Chg.refl [z.en] w2).drew).putRow _ _ _ (.inl (by simp))
 have M1:=Lib.hid ((HH.out.stay C1.out).trans ((HH.out.keep C1.out).other (ks':=z.ks) (en':=en.set i e') (k:=z.en) (.inr rfl) c3 q2 HH.out.six q1 (by rw [List.length_set];exact HH.out.lines)))
 clear p0 p2 rS rE oS oE o1 r1 q1 q2 c3 nse nes nsb neb C1
 generalize putRow w2.drew z.en (i*15) (ec e')=w3 at M1 ⊢
 go_wp2_with fail
 go_loopw [19] (fun ix wr=>∃(j:Nat) (L':List (Po×Pt)),j≤n∧ix=.int .i64 j∧MTo W w c z L z L' (en.set i e') es xs wr∧ports L'=sendP (ports L) (ds.take j)) (fun ix _=>n-(intOf ix).toNat)
 case atStart=>exact ⟨0,L,by omega,rfl,M1.out,by simp;rfl⟩
 case round=>
  clear M1
  obtain ⟨j,L',hj,rfl,hm,hp⟩:=hrel
  have MM:=Lib.hid hm
  have HP:=Lib.hid hp
  clear hm hp
  by_cases hlt:j<n
  ·have g2:(j:Int)<(n:Int):=by omega
   have g3:(0:Int)≤(j:Int):=by omega
   obtain ⟨b2,o2,rfl⟩:=HS.out.addr (by omega)
   have hjd:j<ds.length:=by rw [←HN.out];exact hlt
   obtain ⟨d,hy⟩:∃d,ds[j]? =some d:=⟨ds[j]'hjd,List.getElem?_eq_getElem _⟩
   obtain ⟨cs,ts,fs,hb2,i2,p2⟩:=sd_whole HS.out MM.out.2.1 (HA.out (by omega) _ rfl) hlt hy
   have ht:ds.take (j+1)=ds.take j++[d]:=by
    rw [List.take_succ_eq_append_getElem hjd,show ds[j]'hjd=d from (List.getElem?_eq_some_iff.1 hy).2]
   have hmd:=HO.out d (List.mem_of_getElem? hy)
   have HD:=Lib.hid ht
   clear hy ht
   obtain ⟨tk,m⟩:=d
   obtain ⟨k,rfl⟩:∃k:Nat,tk=k:=⟨tk.toNat,by have h0:0≤tk:=hmd.1;omega⟩
   have hk:k<L'.length:=by rw [MM.out.1.cores];have:=hmd.2.1;exact Int.ofNat_lt.1 this
   obtain ⟨⟨p,x⟩,hLk⟩:∃y,L'[k]? =some y:=⟨L'[k]'hk,List.getElem?_eq_getElem _⟩
   have hdn:x.dn.length+1≤1000:=by
    have h1:=sendP_dn (ds.take j) (ports L) M HX.out x (by rw [←HP.out];exact List.mem_of_getElem? (ports_at hLk))
    rw [List.length_take] at h1
    have:=HY.out
    omega
   have g4:(k:Int)<(c.co:Int):=hmd.2.1
   have g5:(0:Int)≤(k:Int):=by omega
   have rS:=MM.out.1.sys
   have oS:=old rS
   have HLK:=Lib.hid hLk
   have HDN:=Lib.hid hdn
   have HMM:=Lib.hid hmd.2.2
   clear hLk hdn hmd hk hjd
   go_wp2_with fail
   have r4:(wr.alloc (.cells (sc ⟨(k:Int),m⟩) 142)).heap[wr.heap.size]? =some (.cells (sc ⟨(k:Int),m⟩) 142 (0,0)):=by simp
   have C4:=Lib.hid ((Chg.refl [] wr).alloc (.cells (sc ⟨(k:Int),m⟩) 142))
   have NX:=Lib.hid (show wr.heap.size∉z.all L' from fun hm=>by have:=MM.out.1.old _ hm;omega)
   have NSZ:=Lib.hid (show wr.heap.size≤(wr.alloc (.cells (sc ⟨(k:Int),m⟩) 142)).heap.size by simp)
   generalize wr.heap.size=b4 at r4 NX NSZ ⊢
   generalize wr.alloc (.cells (sc ⟨(k:Int),m⟩) 142)=w4 at r4 C4 NSZ ⊢
   replace rS:=C4.out.keep rS List.not_mem_nil
   clear hb2 i2 p2 oS
   have oS:=old rS
   have o4:=old r4
   go_wp2_with fail
   go_region_held3 (fun w'=>w'.heap[b4]? =some (.cells (sc ⟨(k:Int),m⟩) 142 (0,0))∧w'.heap[z.sy]? =some (.cells (z.enc c).toArray 91 (0,0)))
    (first |exact ⟨N.2.1.keep (((Chg.refl [] w4).drew.alloc (.cells (msc m) 50)).keep r4 List.not_mem_nil) NX.out,N.1.sys⟩|exact ⟨((Chg.refl [] w4).drew.alloc _).keep r4 List.not_mem_nil,((Chg.refl [] w4).drew.alloc _).keep rS List.not_mem_nil⟩|exact ⟨r4,rS⟩)
    (first
     |(go_at_call 61;refine ((MM.out.1.keep (C4.out.trans ((Chg.refl [] w4).drew.alloc (.cells (msc m) 50)))).send_dn HT.out HLK.out (some ⟨w4.heap.size,0,none⟩) 1 1 [m] rfl (Told.one w4.drew m).1 (fun a ha hm=>by cases ha;have h1:=MM.out.1.old _ hm;have h2:=NSZ.out;have h3:=C4.out.size;simp at h1;omega) HDN.out (by simpa using HMM.out)).mono ?_;rintro r w' ⟨rfl,p',_,N⟩))
   all_goals
    have HNN:=Lib.hid (MM.out.trans (((MM.out.1.stay (C4.out.trans ((Chg.refl [] w4).drew.alloc (.cells (msc m) 50))))).trans N))
    clear N r4 rS oS o4
    go_wp2_with fail
    go_roundw
    case rel=>
     refine ⟨j+1,_,by omega,by go_num,HNN.out,?_⟩
     rw [ports_set,HP.out,HD.out]
     rw [sendP_snoc]
     have h1:=ports_at HLK.out
     rw [HP.out] at h1
     rw [sendTo_some h1]
    case measure=>simp [intOf];omega
  ·obtain rfl:j=n:=by omega
   go_wp2_with fail
   go_end0
   refine ⟨rfl,L',MM.out,?_⟩
   have:=HP.out
   rw [HN.out,List.take_length] at this
   exact this
end
end Go.Proofs.YtcjoinhngdfdmaaGreatDoor
end
section
namespace Go.Proofs.YtcjoinhngdfdmaaGreatDoor
open Go.RowKit
set_option linter.unusedVariables false
set_option maxHeartbeats 1000000
set_option maxRecDepth 100000
attribute [local go_sem ↓] append_appS copy_copS clear_clrS make_mkS cell_row frozen_row loadLine storeLine loadSlot storeSlot heap_drew heap_drewN heap_alloc heap_past heap_setCell heap_putRow vs_get slc_st slc_li slc_us slice_slS loadMsg storeMsg loadHas storeHas msc_kd msc_li msc_di msc_ke
attribute [local go_sem] rowCell_some rowFrozen_some rowHas_some rowIn_some rowPart_full rowPart_lit rowPut_full rowPut_lit rowSet_some size_putRow vs_size vs_one wideLine wideSlot run_loadS run_storeS run_appS run_copS run_clrS run_mkS loadW_at storeW_at fit_all fit_le one_int one_bool one_pointer one_slice allOne_list putRow_new ne_size1 ne_size2 ne_size3 ne_size4 zero8_length lines_nil line_eq lit8 slc_size slc_one slc_part slc_in fold_slt fold_slc slc_set_us wideMsg wideHas run_slS msc_size msc_one msc_part msc_in fold_msc msc_putDi msc_putKe msc_putX msc_has ms4_lit
attribute [local simp ↓] heap_drew heap_drewN heap_alloc heap_past heap_setCell heap_putRow
attribute [local simp] rowCell_some rowFrozen_some rowHas_some rowIn_some rowPart_full rowPart_lit rowPut_full rowPut_lit rowSet_some size_putRow vs_size fit_all putRow_new ne_size1 ne_size2 ne_size3 ne_size4 zero8_length slc_size msc_size msc_putDi msc_putKe msc_putX msc_has fit_le
attribute [local go_sem ↓] ec_he ec_di ec_ow ec_sh ec_bu ec_by ec_wa sc_to
attribute [local go_sem] mi_and mi_or mi_not mi_beq0 mi_bne0 ec_size ec_one ec_part ec_in ec_has ec_setDi ec_setOw ec_setSh ec_setBu ec_setBy ec_setWa ec_setSh0 ec_setWa0 ec_putM sc_size sc_one sc_part sc_in
attribute [local simp] ec_size sc_size ec_setDi ec_setOw ec_setSh ec_setBu ec_setBy ec_setWa ec_setSh0 ec_setWa0 ec_putM
attribute [local go_sem ↓] loadEn storeEn loadSd storeSd en_z0
attribute [local go_sem] wideEn wideSd fold_sc size11 putRow_newB putRow_newC ms5_lit
attribute [local simp] en_z0 putRow_newB putRow_newC fit_le ec_has
attribute [local go_sem ↓] mlitZ zenc_po zenc_en zenc_q
attribute [local simp] mlitZ
theorem zenc_k {z:Lay} {c:Cg} {o:Nat} {k:Int} (h0:10≤o) (h:z.ks[o-10]? =some k):(z.enc c).toArray[o]? =some (.int .u64 k):=by
 unfold Lay.enc
 rw [List.getElem?_toArray,List.getElem?_append_right (by simp [Cg.enc];omega),show (c.enc++[Value.pointer (some ⟨z.q,0,none⟩),Value.slice (some ⟨z.po,0,none⟩) c.co c.co,Value.slice (some ⟨z.en,0,none⟩) c.li c.li]).length=10 by simp [Cg.enc],List.getElem?_map,h]
 rfl
theorem zenc_put {z:Lay} {c:Cg} {o:Nat} {k:Int} (h0:10≤o):(z.enc c).toArray.setIfInBounds o (.int .u64 k)=(({z with ks:=z.ks.set (o-10) k}:Lay).enc c).toArray:=by
 unfold Lay.enc
 rw [List.setIfInBounds_toArray,List.set_append_right _ _ (by simp [Cg.enc];omega),show (c.enc++[Value.pointer (some ⟨z.q,0,none⟩),Value.slice (some ⟨z.po,0,none⟩) c.co c.co,Value.slice (some ⟨z.en,0,none⟩) c.li c.li]).length=10 by simp [Cg.enc],List.map_set]
section
variable {W:World} {c:Cg} {z:Lay} {L:List (Po×Pt)} {en:List En} {es:List Ent} {xs:List Int}
theorem Msd.count {w:World} (h:Msd W w c z L en es xs) (o:Nat) (h0:10≤o) (h1:o<16):Calls Tryz.prog 59 #[.pointer (some ⟨z.sy,o,none⟩),.int .u64 1] w fun e w'=>(∃v,e=.returned v)∧∃ks',MTo W w c z L {z with ks:=ks'} L en es xs w':=by
 have hk:o-10<z.ks.length:=by rw [h.six];omega
 refine (add_any z.sy o z.ks[o-10] w _ _ h.sys (zenc_k h0 (List.getElem?_eq_getElem hk))).mono ?_
 rintro e w' ⟨rfl,rfl⟩
 have nes:z.en≠z.sy:=Ne.symm h.ne6.1.2.2.2.2
 refine ⟨⟨_,rfl⟩,z.ks.set (o-10) (IntKind.u64.wrap (z.ks[o-10]+1)),h.other (k:=z.sy) (.inl rfl) ((Chg.refl [z.sy] w).setCell z.sy o _ (.inl (by simp))) ?_ (by rw [List.length_set];exact h.six) ?_ h.lines⟩
 ·rw [heap_setCell,if_pos rfl,h.sys,rowSet_some,zenc_put h0]
 ·rw [heap_setCell,if_neg nes];exact h.ents
end
end Go.Proofs.YtcjoinhngdfdmaaGreatDoor
end
