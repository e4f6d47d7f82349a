/- Texts of the walk, one behind the other: Msga Msgq Arr Arra Arrb Arrt Arrw Que. No condition. -/
import Derived.Test.YtcjoinhngdfdmaaGreatDoorCLaa
import Derived.Test.YtcjoinhngdfdmaaGreatDoorCLab
import Derived.Test.YtcjoinhngdfdmaaGreatDoorCLac
import Derived.BigQuiet
import Derived.ChangeKeysEq
import Derived.Deep.Cut
import Derived.Deep.CutBlock
import Derived.Deep.CutRange
import Derived.Deep.DeepCutAuto
import Derived.Deep.QuietTactic
import Derived.Deep.RegionHeld3
import Derived.Deep.RegionWith
import Derived.Laws.StructEq
namespace Go.Proofs.YtcjoinhngdfdmaaGreatDoor
open Go.RowKit
set_option linter.unusedVariables false
set_option maxHeartbeats 1000000
attribute [local go_sem ↓] append_appS copy_copS clear_clrS make_mkS slice_slS cell_row frozen_row loadLine storeLine loadMsg storeMsg loadHas storeHas heap_drew heap_drewN heap_alloc heap_past heap_setCell heap_putRow msc_kd msc_li msc_di msc_ke
attribute [local go_sem] rowCell_some rowFrozen_some rowHas_some rowIn_some rowPart_full rowPut_full rowSet_some vs_size vs_one wideLine wideMsg wideHas run_loadS run_storeS run_appS run_copS run_clrS run_mkS run_slS loadW_at storeW_at fit_all fit_le one_int one_bool one_pointer one_slice allOne_list putRow_new ne_size1 ne_size2 zero8_length line_eq lit8 msc_size msc_one msc_part fold_msc
attribute [local simp ↓] heap_drew heap_drewN heap_alloc heap_past heap_setCell heap_putRow
attribute [local simp] rowCell_some rowFrozen_some rowHas_some rowIn_some rowPart_full rowPut_full rowSet_some vs_size fit_all putRow_new ne_size1 ne_size2 zero8_length msc_size
section
theorem mgood_in (m:Ms) (k:Nat) (w:World) (hk:m.kd=k) (h1:1≤k) (h2:k≤14) (hl:lineB m.li=true) (ht:Tab w):Calls Tryz.prog 96 #[.agg (msc m)] w fun e w'=>e=.returned (.bool (mg m))∧Chg [] w w':=by
 have oh:=ht.old
 obtain ⟨t,f,ht⟩:=ht
 obtain ⟨ri,rp⟩:=tab_row k (by omega) t f
 obtain ⟨kd,li,di,ke,l,h8⟩:=m
 simp only at hk hl
 subst hk
 have hkd:kindB (k:Int)=true:=by simp [kindB];omega
 have hmg:mg ⟨k,li,di,ke,l,h8⟩=((!di||mayD k)&&(!ke||mayK k)&&(mayW k||di||l==[0,0,0,0,0,0,0,0])):=by simp [mg,hkd,hl]
 have he:=fun W=>line_eq l [0,0,0,0,0,0,0,0] h8 rfl W
 have g0:(0:Int)≤(k:Int):=by omega
 have g1:(k:Int)<15:=by omega
 have g2:k<15:=by omega
 rw [hmg]
 have HK:=Lib.hid hkd
 have HL:=Lib.hid hl
 clear hmg h1 h2 hkd hl
 generalize mayD (k:Int)=d at rp ⊢
 generalize mayK (k:Int)=e at rp ⊢
 generalize mayW (k:Int)=s at rp ⊢
 have hc:(di=true∧d=false)∨((di=false∨(di=true∧d=true))∧((ke=true∧e=false)∨((ke=false∨(ke=true∧e=true))∧(s=true∨s=false)))):=by
  cases di<;>cases d<;>cases ke<;>cases e<;>cases s<;>simp
 rcases hc with ⟨rfl,rfl⟩|⟨rfl|⟨rfl,rfl⟩,⟨rfl,rfl⟩|⟨rfl|⟨rfl,rfl⟩,rfl|rfl⟩⟩
 all_goals
  go_enter Tryz.func96,Tryz.ntmps96
  try dsimp only [List.append]
  go_wp2_with (go_at_call 147;refine (mwithin_any _ _ _ _).mono ?_;rintro e w' ⟨rfl,rfl⟩;(try rw [show (decide ((1:Int)≤(k:Int))&&decide ((k:Int)≤14))=true from HK.out]);(try rw [show (decide (0≤li)&&decide (li≤63))=true from HL.out]))
  go_ret
  exact ⟨by simp,((((Chg.refl _ _).alloc _).alloc _)).putRow _ _ _ (.inr (by simp))⟩
theorem mgood_any (m:Ms) (w:World) (ht:Tab w):Calls Tryz.prog 96 #[.agg (msc m)] w fun e w'=>e=.returned (.bool (mg m))∧Chg [] w w':=by
 cases h1:kindB m.kd
 ·exact mgood_kind m w h1
 cases h2:lineB m.li
 ·exact mgood_line m w h1 h2
 have h3:1≤m.kd∧m.kd≤14:=by simpa [kindB] using h1
 exact mgood_in m m.kd.toNat w (by omega) (by omega) (by omega) h2 ht
end
section
set_option maxRecDepth 100000
theorem msg_info:(Tryz.prog.info? 50).map (fun i=>(i.zero,i.size,i.bytes))=some (some msV,12,88):=by kernel_rfl
theorem eltMsg:Elt Tryz.prog 120 50 12 88 msV Ms.enc where
 slice:=Tryz.underlying120
 info:=msg_info
 zero:=msV_size
 zone:=msV_one
 pos:=by omega
 len:=Ms.len
 one:=Ms.one
theorem msg_slice (w:World) (m:Ms):Sl ((w.alloc (.cells (msc m) 50)).drew) 12 (some ⟨w.heap.size,0,none⟩) 1 (cat Ms.enc [m]):=
 ⟨by rw [cat_length Ms.len];rfl,.inr ⟨w.heap.size,0,msc m,50,(0,0),rfl,by simp,by rw [cat_one];simp [msc,Ms.len,List.take_of_length_le]⟩⟩
def Qu (W w:World) (q be:Nat) (xs:List Ms):Prop:=
 Chg [] W w∧Tab W∧W.heap.size≤q∧W.heap.size≤be∧xs.length≤1000∧∃A cap,w.heap[q]? =some (.cells #[.slice A xs.length cap] 122 (0,0))∧Vof 12 50 Ms.enc w q be A cap xs
theorem Qu.keep {W w w':World} {q be:Nat} {xs:List Ms} {l:List Nat} (h:Qu W w q be xs) (hc:Chg l w w') (hl:∀x∈l,W.heap.size≤x) (hq:q∉l) (hb:be∉l):Qu W w' q be xs:=by
 obtain ⟨h1,h2,h3,h4,h5,A,cap,h6,h7⟩:=h
 exact ⟨h1.trans' hc (fun x hx=>.inr (hl x hx)),h2,h3,h4,h5,A,cap,hc.keep h6 hq,h7.keep hc hb⟩
theorem results_msg2 {fn:Func} {p t:Tmp} (h:fn.results=#[.cell p 50,.tmp t]) (tmps:Array Value) (w:World) (b:Nat) (m:Ms) (fr:Nat×Nat)
 (hp:tmps.getD p undef=.pointer (some ⟨b,0,none⟩)) (hb:w.heap[b]? =some (.cells (msc m) 50 fr)) (x:Value) (hx:tmps.getD t undef=x):
 (results fn tmps).run Tryz.prog w=.ok (.tuple #[.agg (msc m),x]) w:=by
 subst hx
 have hp':tmps[p]?.getD undef=.pointer (some ⟨b,0,none⟩):=by simpa using hp
 have:=run_loadVar_row (P:=Tryz.prog) w b 50 50 (msc m) fr _ hb Tryz.underlying50 rfl (by rw [msc_size];kernel_rfl)
 simp [results,h,hp',asAddr,this]
theorem mlitZ:(#[.int .i64 0,.int .i64 0,.bool false,.bool false,.int .u64 0,.int .u64 0,.int .u64 0,.int .u64 0,.int .u64 0,.int .u64 0,.int .u64 0,.int .u64 0]:Array Value)=msc msZ:=rfl
attribute [local go_sem ↓] mlitZ
attribute [local simp] mlitZ
theorem headM_nil:headM []=msZ:=rfl
theorem headM_cons (x:Ms) (xs:List Ms):headM (x::xs)=x:=rfl
end
end Go.Proofs.YtcjoinhngdfdmaaGreatDoor
namespace Go.Proofs.YtcjoinhngdfdmaaGreatDoor
open Go.RowKit
set_option linter.unusedVariables false
section
theorem wideSlot:Wide Tryz.prog 205 11:=⟨⟨_,Tryz.underlying205,by rfl⟩,by kernel_rfl⟩
theorem loadSlot (x:Value):Instr.loadAt 205 x=loadS 205 11 x:=rfl
theorem storeSlot (x y:Value):Instr.storeAt 205 x y=storeS 205 11 x y:=rfl
attribute [local go_sem ↓] append_appS copy_copS clear_clrS make_mkS cell_row frozen_row loadLine storeLine loadSlot storeSlot heap_drew heap_drewN heap_alloc heap_past heap_setCell heap_putRow slc_st slc_li slc_us
attribute [local go_sem] rowCell_some rowFrozen_some rowHas_some rowIn_some rowPart_full rowPut_full rowSet_some vs_size vs_one wideLine wideSlot run_loadS run_storeS run_appS run_copS run_clrS run_mkS loadW_at storeW_at fit_all fit_le one_int one_bool one_pointer one_slice allOne_list putRow_new ne_size1 ne_size2 zero8_length lines_nil line_eq lit8 slc_size slc_one slc_part
attribute [local simp ↓] heap_drew heap_drewN heap_alloc heap_past heap_setCell heap_putRow
attribute [local simp] rowCell_some rowFrozen_some rowHas_some rowIn_some rowPart_full rowPut_full rowSet_some vs_size fit_all putRow_new ne_size1 ne_size2 zero8_length slc_size
theorem slot_info:(Tryz.prog.info? 205).map (fun i=>(i.zero,i.size,i.bytes))=some (some sltV,11,88):=by kernel_rfl
theorem eltSlot:Elt Tryz.prog 244 205 11 88 sltV Slt.enc where
 slice:=Tryz.underlying244
 info:=slot_info
 zero:=sltV_size
 zone:=sltV_one
 pos:=by omega
 len:=Slt.len
 one:=Slt.one
theorem quiet_same {P:Program} {f:FuncId} {args:Array Value} {w:World} {n:Nat} {v:Value} (h:Calls P f args (w.drewN n) fun e w'=>e=.returned v∧w.drewN n=w'):Calls P f args (w.drewN n) fun e w''=>e=.returned v∧∃m,w''=w.drewN m:=
 h.mono fun _ _ ⟨he,hm⟩=>⟨he,n,hm.symm⟩
theorem geomSet_ok (S:Nat) (li:Int) (w:World) (h:S=1∨S=2∨S=4∨S=8) (h0:0≤li):Calls Tryz.prog 184 #[.int .i64 S,.int .i64 li] w fun e w'=>e=.returned (.int .i64 (setOf S li))∧w=w':=by
 obtain ⟨m,rfl⟩:=Int.eq_ofNat_of_zero_le h0
 have t1:decide ((m:Int)<0)=false:=by simp
 unfold setOf
 rw [Int.toNat_natCast]
 rcases h with rfl|rfl|rfl|rfl
 all_goals
  go_enter Tryz.func184,Tryz.ntmps184
  go_wp2
  go_ret
  exact ⟨by first |rfl|(simp;done)|(simp;omega)|trace_state,rfl⟩
theorem isSets_yes (S:Nat) (w:World) (h:S=1∨S=2∨S=4∨S=8):Calls Tryz.prog 166 #[.int .i64 S] w fun e w'=>e=.returned (.bool true)∧w=w':=by
 rcases h with rfl|rfl|rfl|rfl
 all_goals
  go_enter Tryz.func166,Tryz.ntmps166
  go_wp2
  go_ret
  exact ⟨rfl,rfl⟩
theorem atRest_ok (s:Int) (w:World):Calls Tryz.prog 225 #[.int .i64 s] w fun e w'=>e=.returned (.bool (atRest s))∧w=w':=by
 by_cases h:s=1∨s=2∨s=3
 ·rcases h with rfl|rfl|rfl
  all_goals
   go_enter Tryz.func225,Tryz.ntmps225
   go_wp2
   go_ret
   exact ⟨rfl,rfl⟩
 ·have t1:(s==1)=false:=by simp;omega
  have t2:(s==2)=false:=by simp;omega
  have t3:(s==3)=false:=by simp;omega
  have hr:atRest s=false:=by unfold atRest;simp;omega
  rw [hr]
  go_enter Tryz.func225,Tryz.ntmps225
  go_wp2
  go_ret
  exact ⟨rfl,rfl⟩
theorem wayOf_ok (A:Option Addr) (n c:Nat) (li:Int) (ys:List Slt) (w:World) (h:Sl w 11 A n (cat Slt.enc ys)) (hn:n=ys.length) (hn8:n≤100000):
 Calls Tryz.prog 155 #[.slice A n c,.int .i64 li] w fun e w'=>e=.returned (.int .i64 (hit (pLine li) ys))∧Chg [] w w':=by
 have H:=Lib.hid h
 have HN:=Lib.hid hn
 clear h hn
 go_enter Tryz.func155,Tryz.ntmps155
 go_wp2
 go_loopw [9] (fun i wr=>∃k:Nat,k≤n∧i=.int .i64 k∧Chg [] w wr∧∀x∈ys.take k,pLine li x=false) (fun i _=>n-(intOf i).toNat)
 case atStart=>exact ⟨0,by omega,rfl,Chg.refl _ _,by simp⟩
 case round=>
  obtain ⟨k,hk,rfl,hc,hno⟩:=hrel
  have HC:=Lib.hid hc
  have HNO:=Lib.hid hno
  clear hno hc
  by_cases hlt:k<n
  ·obtain ⟨b,o,rfl⟩:=H.out.addr (by omega)
   obtain ⟨y,hy⟩:∃y,ys[k]? =some y:=⟨ys[k]'(by rw [←HN.out];exact hlt),List.getElem?_eq_getElem _⟩
   obtain ⟨cs,t,f,hb,hce,hpa⟩:=(H.out.chg HC.out (by simp)).elem (by omega) hlt (cat_part Slt.len hy)
   obtain ⟨r1,r2⟩:=hpa 0 11 (by omega)
   have e11:((Slt.enc y).drop 0 |>.take 11).toArray=slc y:=by rw [List.drop_zero,List.take_of_length_le (by rw [Slt.len];exact Nat.le_refl _)];rfl
   rw [e11,Nat.add_zero] at r2
   rw [Nat.add_zero] at r1
   have g1:(k:Int)<(n:Int):=by omega
   have g0:(0:Int)≤(k:Int):=by omega
   have g2:(n:Int)≤100000:=by omega
   have HY:=Lib.hid hy
   clear hy hce hpa e11
   by_cases hs:y.st=0
   ·have t1:(y.st !=0)=false:=by simp [hs]
    have t1':(y.st==0)=true:=by simp [hs]
    have HP:=Lib.hid (take_all HY.out (show pLine li y=false by simp [pLine,hs]) HNO.out)
    go_wp2
    go_roundw
    case rel=>exact ⟨k+1,by omega,by go_num,HC.out.alloc _,HP.out⟩
    case measure=>simp [intOf];omega
   ·have t1:(y.st !=0)=true:=by simp [hs]
    have t1':(y.st==0)=false:=by simp [hs]
    by_cases hli:y.li=li
    ·have t2:(y.li==li)=true:=by simp [hli]
     have HP:=Lib.hid (hit_at HY.out (show pLine li y=true by simp [pLine,hs,hli]) HNO.out)
     go_wp2
     go_ret
     exact ⟨by rw [HP.out];rfl,HC.out.alloc _⟩
    ·have t2:(y.li==li)=false:=by simp [hli]
     have HP:=Lib.hid (take_all HY.out (show pLine li y=false by simp [pLine,hs,hli]) HNO.out)
     go_wp2
     go_roundw
     case rel=>exact ⟨k+1,by omega,by go_num,HC.out.alloc _,HP.out⟩
     case measure=>simp [intOf];omega
  ·obtain rfl:k=n:=by omega
   go_wp2
   go_ret
   exact ⟨by rw [hit_none (by have:=HNO.out;rw [HN.out,List.take_length] at this;exact this)];rfl,HC.out⟩
theorem emptyWay_ok (A:Option Addr) (n c:Nat) (ys:List Slt) (w:World) (h:Sl w 11 A n (cat Slt.enc ys)) (hn:n=ys.length) (hn8:n≤100000):
 Calls Tryz.prog 156 #[.slice A n c] w fun e w'=>e=.returned (.int .i64 (hit pFree ys))∧Chg [] w w':=by
 have H:=Lib.hid h
 have HN:=Lib.hid hn
 clear h hn
 go_enter Tryz.func156,Tryz.ntmps156
 go_wp2
 go_loopw [7] (fun i wr=>∃k:Nat,k≤n∧i=.int .i64 k∧Chg [] w wr∧∀x∈ys.take k,pFree x=false) (fun i _=>n-(intOf i).toNat)
 case atStart=>exact ⟨0,by omega,rfl,Chg.refl _ _,by simp⟩
 case round=>
  obtain ⟨k,hk,rfl,hc,hno⟩:=hrel
  have HC:=Lib.hid hc
  have HNO:=Lib.hid hno
  clear hno hc
  by_cases hlt:k<n
  ·obtain ⟨b,o,rfl⟩:=H.out.addr (by omega)
   obtain ⟨y,hy⟩:∃y,ys[k]? =some y:=⟨ys[k]'(by rw [←HN.out];exact hlt),List.getElem?_eq_getElem _⟩
   obtain ⟨cs,t,f,hb,hce,hpa⟩:=(H.out.chg HC.out (by simp)).elem (by omega) hlt (cat_part Slt.len hy)
   obtain ⟨r1,r2⟩:=hpa 0 11 (by omega)
   have e11:((Slt.enc y).drop 0 |>.take 11).toArray=slc y:=by rw [List.drop_zero,List.take_of_length_le (by rw [Slt.len];exact Nat.le_refl _)];rfl
   rw [e11,Nat.add_zero] at r2
   rw [Nat.add_zero] at r1
   have g1:(k:Int)<(n:Int):=by omega
   have g0:(0:Int)≤(k:Int):=by omega
   have g2:(n:Int)≤100000:=by omega
   have HY:=Lib.hid hy
   clear hy hce hpa e11
   by_cases hs:y.st=0
   ·have t1:(y.st==0)=true:=by simp [hs]
    have HP:=Lib.hid (hit_at HY.out (show pFree y=true by simp [pFree,hs]) HNO.out)
    go_wp2
    go_ret
    exact ⟨by rw [HP.out];rfl,HC.out.alloc _⟩
   ·have t1:(y.st==0)=false:=by simp [hs]
    have HP:=Lib.hid (take_all HY.out (show pFree y=false by simp [pFree,hs]) HNO.out)
    go_wp2
    go_roundw
    case rel=>exact ⟨k+1,by omega,by go_num,HC.out.alloc _,HP.out⟩
    case measure=>simp [intOf];omega
  ·obtain rfl:k=n:=by omega
   go_wp2
   go_ret
   exact ⟨by rw [hit_none (by have:=HNO.out;rw [HN.out,List.take_length] at this;exact this)];rfl,HC.out⟩
theorem slt_elem {w wr:World} {l:List Nat} {n b o k:Nat} {ys:List Slt} {y:Slt} (h:Sl w 11 (some ⟨b,o,none⟩) n (cat Slt.enc ys)) (hc:Chg l w wr) (hb:b∉l) (hk:k<n) (hy:ys[k]? =some y):
 ∃c t f,wr.heap[b]? =some (.cells c t f)∧rowIn (some (.cells c t f)) (o+k*11) 11=true∧rowPart (some (.cells c t f)) (o+k*11) 11=slc y:=by
 obtain ⟨cs,t,f,hb,hce,hpa⟩:=(h.chg hc (by simpa using hb)).elem (by omega) hk (cat_part Slt.len hy)
 obtain ⟨r1,r2⟩:=hpa 0 11 (by omega)
 have e11:((Slt.enc y).drop 0 |>.take 11).toArray=slc y:=by rw [List.drop_zero,List.take_of_length_le (by rw [Slt.len];exact Nat.le_refl _)];rfl
 rw [e11,Nat.add_zero] at r2
 rw [Nat.add_zero] at r1
 exact ⟨cs,t,f,hb,r1,r2⟩
theorem eldest_ok (A:Option Addr) (n c:Nat) (ys:List Slt) (w:World) (h:Sl w 11 A n (cat Slt.enc ys)) (hn:n=ys.length) (hn8:n≤100000):
 Calls Tryz.prog 217 #[.slice A n c] w fun e w'=>e=.returned (.int .i64 (eld ys))∧Chg [] w w':=by
 have H:=Lib.hid h
 have HN:=Lib.hid hn
 clear h hn
 go_enter Tryz.func217,Tryz.ntmps217
 go_wp2
 go_loopw [9,3,4] (fun i s3 s4 wr=>∃(k:Nat) (p q:Int),k≤n∧i=.int .i64 k∧s3=.int .i64 p∧s4=.int .i64 q∧Chg [] w wr∧eldS (ys.take k)=(p,q)) (fun i _ _ _=>n-(intOf i).toNat)
 case atStart=>exact ⟨0, -1,0,by omega,rfl,rfl,rfl,Chg.refl _ _,rfl⟩
 case round=>
  obtain ⟨k,p,q,hk,rfl,rfl,rfl,hc,hno⟩:=hrel
  have HC:=Lib.hid hc
  have HNO:=Lib.hid hno
  clear hno hc
  by_cases hlt:k<n
  ·obtain ⟨b,o,rfl⟩:=H.out.addr (by omega)
   obtain ⟨y,hy⟩:∃y,ys[k]? =some y:=⟨ys[k]'(by rw [←HN.out];exact hlt),List.getElem?_eq_getElem _⟩
   obtain ⟨cs,t,f,hb,r1,r2⟩:=slt_elem H.out HC.out (by simp) hlt hy
   have g1:(k:Int)<(n:Int):=by omega
   have g0:(0:Int)≤(k:Int):=by omega
   have g2:(n:Int)≤100000:=by omega
   have HY:=Lib.hid (show eldS (ys.take (k+1))=eldStep (p,q) y by rw [eldS_take hy,HNO.out])
   clear hy
   by_cases hr:(atRest y.st&&(decide (p<0)||decide (y.us<q)))=true
   ·have HP:=Lib.hid (show eldS (ys.take (k+1))=(y.li,y.us) by rw [HY.out];unfold eldStep;rw [if_pos hr])
    rw [Bool.and_eq_true] at hr
    obtain ⟨hr1,hr2⟩:=hr
    by_cases hp:p<0
    ·have t1:decide (p<0)=true:=by simpa using hp
     clear hr2
     go_wp2_with (go_at_call 225;refine (atRest_ok _ _).mono ?_;rintro e w' ⟨rfl,rfl⟩)
     go_quiet (fail)
     go_wp2
     go_roundw
     case rel=>exact ⟨k+1,_,_,by omega,by go_num,rfl,rfl,(HC.out.alloc _).drewN _,HP.out⟩
     case measure=>simp [intOf];omega
    ·have t1:decide (p<0)=false:=by simpa using hp
     have t2:decide (y.us<q)=true:=by rw [t1] at hr2;simpa using hr2
     clear hr2
     go_wp2_with (go_at_call 225;refine (atRest_ok _ _).mono ?_;rintro e w' ⟨rfl,rfl⟩)
     go_quiet (fail)
     go_wp2
     go_roundw
     case rel=>exact ⟨k+1,_,_,by omega,by go_num,rfl,rfl,(HC.out.alloc _).drewN _,HP.out⟩
     case measure=>simp [intOf];omega
   ·have HP:=Lib.hid (show eldS (ys.take (k+1))=(p,q) by rw [HY.out];unfold eldStep;rw [if_neg hr])
    by_cases hr1:atRest y.st=true
    ·rw [hr1,Bool.true_and] at hr
     have t1:decide (p<0)=false:=by simp at hr;simp;omega
     have t2:decide (y.us<q)=false:=by simp at hr;simp;omega
     clear hr
     go_wp2_with (go_at_call 225;refine (atRest_ok _ _).mono ?_;rintro e w' ⟨rfl,rfl⟩)
     go_roundw
     case rel=>exact ⟨k+1,_,_,by omega,by go_num,rfl,rfl,HC.out.alloc _,HP.out⟩
     case measure=>simp [intOf];omega
    ·have hr1:atRest y.st=false:=by simpa using hr1
     clear hr
     go_wp2_with (go_at_call 225;refine (atRest_ok _ _).mono ?_;rintro e w' ⟨rfl,rfl⟩)
     go_roundw
     case rel=>exact ⟨k+1,_,_,by omega,by go_num,rfl,rfl,HC.out.alloc _,HP.out⟩
     case measure=>simp [intOf];omega
  ·obtain rfl:k=n:=by omega
   go_wp2
   go_ret
   exact ⟨by have:=HNO.out;rw [HN.out,List.take_length] at this;unfold eld;rw [this];rfl,HC.out⟩
def Arr (w:World) (a b S W:Nat) (xs:List Slt) (u:Int):Prop:=
 w.heap[a]? =some (.cells #[.int .i64 S,.int .i64 W,.slice (some ⟨b,0,none⟩) xs.length xs.length,.int .i64 u] 256 (0,0))∧w.heap[b]? =some (.cells (sq Slt.enc xs []) 205 (0,0))∧a≠b∧Good S W xs
theorem Arr.keep {w w':World} {a b S W:Nat} {xs:List Slt} {u:Int} {l:List Nat} (h:Arr w a b S W xs u) (hc:Chg l w w') (ha:a∉l) (hb:b∉l):Arr w' a b S W xs u:=
 ⟨hc.keep h.1 ha,hc.keep h.2.1 hb,h.2.2⟩
theorem Arr.olda {w:World} {a b S W:Nat} {xs:List Slt} {u:Int} (h:Arr w a b S W xs u):a<w.heap.size:=lt_heap h.1
theorem Arr.oldb {w:World} {a b S W:Nat} {xs:List Slt} {u:Int} (h:Arr w a b S W xs u):b<w.heap.size:=lt_heap h.2.1
theorem Arr.sl {w:World} {a b S W:Nat} {xs:List Slt} {u:Int} (h:Arr w a b S W xs u) (li:Int):Sl w 11 (some ⟨b,setOf S li*W*11,none⟩) W (cat Slt.enc (seg W xs (setOf S li))):=by
 have hg:=h.2.2.2
 have hf:=hg.fit li
 refine ⟨by rw [cat_length Slt.len,hg.seg_len],.inr ⟨b,_,_,_,_,rfl,h.2.1,?_⟩⟩
 rw [sq_toList,List.append_nil,cat_drop Slt.len,cat_take Slt.len];rfl
theorem aset_nil (li:Int) (w:World):Calls Tryz.prog 154 #[.pointer none,.int .i64 li] w fun e w'=>e=.returned (.slice none 0 0)∧w=w':=by
 go_enter Tryz.func154,Tryz.ntmps154
 go_wp2
 go_ret
 exact ⟨rfl,rfl⟩
theorem aset_neg (a:Addr) (li:Int) (w:World) (h:li<0):Calls Tryz.prog 154 #[.pointer (some a),.int .i64 li] w fun e w'=>e=.returned (.slice none 0 0)∧w=w':=by
 have t1:decide (li<0)=true:=by simpa using h
 go_enter Tryz.func154,Tryz.ntmps154
 go_wp2
 go_ret
 exact ⟨rfl,rfl⟩
theorem aset_ok (a b S W:Nat) (xs:List Slt) (u li:Int) (w:World) (h:Arr w a b S W xs u) (h0:0≤li):
 Calls Tryz.prog 154 #[.pointer (some ⟨a,0,none⟩),.int .i64 li] w fun e w'=>e=.returned (.slice (some ⟨b,setOf S li*W*11,none⟩) W W)∧Chg [] w w':=by
 obtain ⟨ha,hb,hab,hg⟩:=h
 have t1:decide (li<0)=false:=by simp;omega
 have oa:=old ha
 have hf:=hg.fit li
 have hl:=hg.len
 have h64:=hg.len64
 have hw8:=hg.way8
 have hw1:=hg.way1
 obtain ⟨f,hfe⟩:∃f,setOf S li*W=f:=⟨_,rfl⟩
 have hfe':(setOf S li:Int)*(W:Int)=(f:Int):=by rw [←hfe,Int.natCast_mul]
 have HS:=Lib.hid hg.sets
 rw [hfe] at hf ⊢
 rw [←hl] at hf
 obtain ⟨N,hN⟩:∃N,xs.length=N:=⟨_,rfl⟩
 rw [hN] at hf h64 ha
 have g1:(f:Int)+(W:Int)≤(N:Int):=by omega
 have g2:(N:Int)≤64:=by omega
 have g3:(1:Int)≤(W:Int):=by omega
 have g4:(0:Int)≤(f:Int):=by omega
 clear hfe hl hN hg
 go_enter Tryz.func154,Tryz.ntmps154
 go_wp2
 go_quiet (first |(go_at_call 184;exact quiet_same (geomSet_ok S li _ HS.out h0)))
 go_wp2
 go_ret
 exact ⟨by rw [Nat.add_sub_cancel_left];rfl,(Chg.refl _ _).drewN _⟩
end
section
set_option maxHeartbeats 1000000
attribute [local go_sem ↓] append_appS copy_copS clear_clrS make_mkS cell_row frozen_row loadLine storeLine loadSlot storeSlot heap_drew heap_drewN heap_alloc heap_past heap_setCell heap_putRow slc_st slc_li slc_us
attribute [local go_sem] rowCell_some rowFrozen_some rowHas_some rowIn_some rowPart_full rowPut_full rowSet_some vs_size vs_one wideLine wideSlot run_loadS run_storeS run_appS run_copS run_clrS run_mkS loadW_at storeW_at fit_all fit_le one_int one_bool one_pointer one_slice allOne_list putRow_new ne_size1 ne_size2 zero8_length lines_nil line_eq lit8 slc_size slc_one slc_part fold_slt slc_set_us
attribute [local simp ↓] heap_drew heap_drewN heap_alloc heap_past heap_setCell heap_putRow
attribute [local simp] rowCell_some rowFrozen_some rowHas_some rowIn_some rowPart_full rowPut_full rowSet_some vs_size fit_all putRow_new ne_size1 ne_size2 zero8_length slc_size
theorem results_slot2 {fn:Func} {p t:Tmp} (h:fn.results=#[.cell p 205,.tmp t]) (tmps:Array Value) (w:World) (b:Nat) (s:Slt) (fr:Nat×Nat)
 (hp:tmps.getD p undef=.pointer (some ⟨b,0,none⟩)) (hb:w.heap[b]? =some (.cells (slc s) 205 fr)) (x:Value) (hx:tmps.getD t undef=x):
 (results fn tmps).run Tryz.prog w=.ok (.tuple #[.agg (slc s),x]) w:=by
 subst hx
 have hp':tmps[p]?.getD undef=.pointer (some ⟨b,0,none⟩):=by simpa using hp
 have:=run_loadVar_row (P:=Tryz.prog) w b 205 205 (slc s) fr _ hb Tryz.underlying205 rfl (by rw [slc_size];kernel_rfl)
 simp [results,h,hp',asAddr,this]
theorem sl_nil (w:World) (c:Nat):Sl w 11 none 0 (cat Slt.enc []):=⟨rfl,.inl rfl⟩
theorem aset_miss (a b S W:Nat) (xs:List Slt) (u li:Int) (w:World) (h:Arr w a b S W xs u) (hn:∀x∈xs,pLine li x=false):
 Calls Tryz.prog 154 #[.pointer (some ⟨a,0,none⟩),.int .i64 li] w fun e w'=>∃(A:Option Addr) (n:Nat) (ys:List Slt),e=.returned (.slice A n n)∧Sl w' 11 A n (cat Slt.enc ys)∧n=ys.length∧n≤100000∧hit (pLine li) ys= -1∧Chg [] w w':=by
 by_cases h0:0≤li
 ·refine (aset_ok a b S W xs u li w h h0).mono ?_
  rintro e w' ⟨rfl,c⟩
  refine ⟨_,_,_,rfl,(h.keep c (by simp) (by simp)).sl li,(h.2.2.2.seg_len li).symm,by have:=h.2.2.2.way8;omega,hit_none ?_,c⟩
  intro x hx
  exact hn x (List.mem_of_mem_drop (List.mem_of_mem_take hx))
 ·refine (aset_neg ⟨a,0,none⟩ li w (by omega)).mono ?_
  rintro e w' ⟨rfl,rfl⟩
  exact ⟨none,0,[],rfl,sl_nil _ 0,rfl,by omega,rfl,Chg.refl _ _⟩
theorem afind_nil (li:Int) (w:World):Calls Tryz.prog 104 #[.pointer none,.int .i64 li] w fun e w'=>e=.returned (.tuple #[.agg (slc sltZ),.bool false])∧Chg [] w w':=by
 go_enter Tryz.func104,Tryz.ntmps104
 go_wp2_with fail
 rw [←slcZ]
 have hz:(w.alloc (.cells (slc sltZ) 205)).heap[w.heap.size]? =some (.cells (slc sltZ) 205 (0,0)):=by simp
 have C0:=Lib.hid ((Chg.refl [] w).alloc (.cells (slc sltZ) 205))
 generalize w.alloc (.cells (slc sltZ) 205)=w1 at hz C0 ⊢
 refine (aset_nil li w1).mono ?_
 rintro e w2 ⟨rfl,rfl⟩
 go_wp2_with fail
 refine (wayOf_ok none 0 0 li [] w1 (sl_nil _ 0) rfl (by omega)).mono ?_
 rintro e w2 ⟨rfl,c2⟩
 have hz2:=c2.keep hz (by simp)
 have oz:=old hz2
 have HC:=Lib.hid (C0.out.trans c2)
 clear hz c2
 rw [hit_none (by simp)]
 go_wp2_with fail
 refine bodyPost_ret (v:=.tuple #[.agg (slc sltZ),.bool false]) ?_ (by rfl) ?_
 ·exact results_slot2 (by rfl) _ _ w.heap.size sltZ (0,0) (by rfl) (by simp [*,slcZ]) _ (by rfl)
 ·exact ⟨rfl,HC.out.putRow _ _ _ (.inr (Nat.le_refl _))⟩
theorem afind_any (a b S W:Nat) (xs:List Slt) (u li:Int) (w:World) (h:Arr w a b S W xs u):
 Calls Tryz.prog 104 #[.pointer (some ⟨a,0,none⟩),.int .i64 li] w fun e w'=>e=.returned (.tuple #[.agg (slc (findVal xs li)),.bool (dropVal xs li)])∧Chg [] w w':=by
 have H:=Lib.hid h
 rcases h.2.2.2.where li with ⟨k,y,e1,e2,hk,hy,hst,hli,h0,e3,e4,e5⟩|⟨e1,e2,e3,e4⟩
 ·rw [show findVal xs li=y by unfold findVal;rw [e2,hy],show dropVal xs li=true by unfold dropVal;rw [e2];simpa using e5]
  have HH:=Lib.hid e3
  have hys:(seg W xs (setOf S li))[k]? =some y:=by rw [seg_get _ _ _ hk];exact hy
  have HL:=Lib.hid (h.2.2.2.seg_len li)
  have HY:=Lib.hid hys
  have hw8:=h.2.2.2.way8
  clear h e1 e2 e3 e4 e5 hst hli hy hys
  go_enter Tryz.func104,Tryz.ntmps104
  go_wp2_with fail
  rw [←slcZ]
  have hz:(w.alloc (.cells (slc sltZ) 205)).heap[w.heap.size]? =some (.cells (slc sltZ) 205 (0,0)):=by simp
  have C0:=Lib.hid ((Chg.refl [] w).alloc (.cells (slc sltZ) 205))
  generalize w.alloc (.cells (slc sltZ) 205)=w1 at hz C0 ⊢
  refine (aset_ok a b S W xs u li w1 (H.out.keep C0.out (by simp) (by simp)) h0).mono ?_
  rintro e w2 ⟨rfl,c2⟩
  have hz2:=c2.keep hz (by simp)
  have C2:=Lib.hid (C0.out.trans c2)
  clear hz c2
  go_wp2_with fail
  refine (wayOf_ok _ W W li _ w2 ((H.out.keep C2.out (by simp) (by simp)).sl li) HL.out.symm (by omega)).mono ?_
  rintro e w3 ⟨rfl,c3⟩
  rw [HH.out]
  have hz3:=c3.keep hz2 (by simp)
  have oz:=old hz3
  have C3:=Lib.hid (C2.out.trans c3)
  obtain ⟨cs,t,f,hb,r1,r2⟩:=slt_elem (H.out.sl li) C3.out (by simp) hk HY.out
  have g1:(k:Int)<(W:Int):=by omega
  have g0:(0:Int)≤(k:Int):=by omega
  have g2:(W:Int)≤8:=by omega
  have t1:decide ((k:Int)<0)=false:=by simp
  clear hz2 c3
  go_wp2_with fail
  refine bodyPost_ret (v:=.tuple #[.agg (slc y),.bool true]) ?_ (by rfl) ?_
  ·exact results_slot2 (by rfl) _ _ w.heap.size y (0,0) (by rfl) (by simp [*]) _ (by rfl)
  ·exact ⟨rfl,C3.out.putRow _ _ _ (.inr (Nat.le_refl _))⟩
 ·rw [show findVal xs li=sltZ by unfold findVal;rw [e3,List.getElem?_eq_none (Nat.le_refl _)],show dropVal xs li=false by unfold dropVal;rw [e3];simp]
  have HN:=Lib.hid e4
  clear h e1 e2 e3 e4
  go_enter Tryz.func104,Tryz.ntmps104
  go_wp2_with fail
  rw [←slcZ]
  have hz:(w.alloc (.cells (slc sltZ) 205)).heap[w.heap.size]? =some (.cells (slc sltZ) 205 (0,0)):=by simp
  have C0:=Lib.hid ((Chg.refl [] w).alloc (.cells (slc sltZ) 205))
  generalize w.alloc (.cells (slc sltZ) 205)=w1 at hz C0 ⊢
  refine (aset_miss a b S W xs u li w1 (H.out.keep C0.out (by simp) (by simp)) HN.out).mono ?_
  rintro e w2 ⟨A,n,ys,rfl,s2,hn,hn1,hh,c2⟩
  have hz2:=c2.keep hz (by simp)
  have C2:=Lib.hid (C0.out.trans c2)
  have S2:=Lib.hid s2
  have HH:=Lib.hid hh
  have HN1:=Lib.hid hn
  clear hz c2 s2 hh hn
  go_wp2_with fail
  refine (wayOf_ok A n n li ys w2 S2.out HN1.out hn1).mono ?_
  rintro e w3 ⟨rfl,c3⟩
  rw [HH.out]
  have hz3:=c3.keep hz2 (by simp)
  have oz:=old hz3
  have C3:=Lib.hid (C2.out.trans c3)
  clear hz2 c3
  go_wp2_with fail
  refine bodyPost_ret (v:=.tuple #[.agg (slc sltZ),.bool false]) ?_ (by rfl) ?_
  ·exact results_slot2 (by rfl) _ _ w.heap.size sltZ (0,0) (by rfl) (by simp [*,slcZ]) _ (by rfl)
  ·exact ⟨rfl,C3.out.putRow _ _ _ (.inr (Nat.le_refl _))⟩
theorem aroom_any (a b S W:Nat) (xs:List Slt) (u li:Int) (w:World) (h:Arr w a b S W xs u):
 Calls Tryz.prog 202 #[.pointer (some ⟨a,0,none⟩),.int .i64 li] w fun e w'=>e=.returned (.tuple #[.bool (roomFree S W xs li),.int .i64 (roomVic S W xs li)])∧Chg [] w w':=by
 have H:=Lib.hid h
 by_cases h0:0≤li
 ·have HL:=Lib.hid (h.2.2.2.seg_len li)
  have hw8:=h.2.2.2.way8
  rcases h.2.2.2.room li with ⟨k,y,e1,hk,hy,hst,e3,e4,_⟩|⟨e1,e2,e3⟩
  ·rw [show roomFree S W xs li=true by unfold roomFree;rw [e1];simp [h0,hk],show roomVic S W xs li= -1 by unfold roomVic;rw [e1,if_pos hk,if_neg (by omega)]]
   have HH:=Lib.hid e3
   have t1:decide ((0:Int)≤(k:Int))=true:=by simp
   clear h e1 hy hst e3 e4
   go_enter Tryz.func202,Tryz.ntmps202
   go_wp2_with fail
   refine (aset_ok a b S W xs u li w H.out h0).mono ?_
   rintro e w2 ⟨rfl,c2⟩
   have C2:=Lib.hid c2
   clear c2
   go_wp2_with fail
   refine (emptyWay_ok _ W W _ w2 ((H.out.keep C2.out (by simp) (by simp)).sl li) HL.out.symm (by omega)).mono ?_
   rintro e w3 ⟨rfl,c3⟩
   rw [HH.out]
   go_wp2_with fail
   go_ret2
   exact ⟨rfl,C2.out.trans c3⟩
  ·rw [show roomFree S W xs li=false by unfold roomFree;rw [e2];simp,show roomVic S W xs li=eld (seg W xs (setOf S li)) by unfold roomVic;rw [e2,if_neg (by omega),if_neg (by omega)]]
   have HH:=Lib.hid e1
   clear h e1 e2 e3
   go_enter Tryz.func202,Tryz.ntmps202
   go_wp2_with fail
   refine (aset_ok a b S W xs u li w H.out h0).mono ?_
   rintro e w2 ⟨rfl,c2⟩
   have C2:=Lib.hid c2
   clear c2
   go_wp2_with fail
   refine (emptyWay_ok _ W W _ w2 ((H.out.keep C2.out (by simp) (by simp)).sl li) HL.out.symm (by omega)).mono ?_
   rintro e w3 ⟨rfl,c3⟩
   rw [HH.out]
   have C3:=Lib.hid (C2.out.trans c3)
   clear c3
   go_wp2_with fail
   refine (eldest_ok _ W W _ w3 ((H.out.keep C3.out (by simp) (by simp)).sl li) HL.out.symm (by omega)).mono ?_
   rintro e w4 ⟨rfl,c4⟩
   go_wp2_with fail
   go_ret2
   exact ⟨rfl,C3.out.trans c4⟩
 ·rw [show roomFree S W xs li=false by unfold roomFree;simp;omega,show roomVic S W xs li= -1 by unfold roomVic;rw [if_pos (by omega)]]
  clear h
  go_enter Tryz.func202,Tryz.ntmps202
  go_wp2_with fail
  refine (aset_neg ⟨a,0,none⟩ li w (by omega)).mono ?_
  rintro e w2 ⟨rfl,rfl⟩
  go_wp2_with fail
  refine (emptyWay_ok none 0 0 [] w (sl_nil _ 0) rfl (by omega)).mono ?_
  rintro e w2 ⟨rfl,c2⟩
  rw [hit_none (by simp)]
  have C2:=Lib.hid c2
  clear c2
  go_wp2_with fail
  refine (eldest_ok none 0 0 [] w2 (sl_nil _ 0) rfl (by omega)).mono ?_
  rintro e w3 ⟨rfl,c3⟩
  go_wp2_with fail
  go_ret2
  exact ⟨rfl,C2.out.trans c3⟩
end
section
set_option maxHeartbeats 1000000
attribute [local go_sem ↓] append_appS copy_copS clear_clrS make_mkS cell_row frozen_row loadLine storeLine loadSlot storeSlot heap_drew heap_drewN heap_alloc heap_past heap_setCell heap_putRow slc_st slc_li slc_us
attribute [local go_sem] rowCell_some rowFrozen_some rowHas_some rowIn_some rowPart_full rowPut_full rowSet_some vs_size vs_one wideLine wideSlot run_loadS run_storeS run_appS run_copS run_clrS run_mkS loadW_at storeW_at fit_all fit_le one_int one_bool one_pointer one_slice allOne_list putRow_new ne_size1 ne_size2 zero8_length lines_nil line_eq lit8 slc_size slc_one slc_part fold_slt slc_set_us
attribute [local simp ↓] heap_drew heap_drewN heap_alloc heap_past heap_setCell heap_putRow
attribute [local simp] rowCell_some rowFrozen_some rowHas_some rowIn_some rowPart_full rowPut_full rowSet_some vs_size fit_all putRow_new ne_size1 ne_size2 zero8_length slc_size
def ArrTo (w:World) (a b S W:Nat) (xs:List Slt) (u:Int) (v:Value) (e:Ending) (w':World):Prop:=e=.returned v∧Chg [a,b] w w'∧Arr w' a b S W xs u
theorem ArrTo.same {w w':World} {a b S W:Nat} {xs:List Slt} {u:Int} (h:Arr w a b S W xs u) (hc:Chg [] w w') (v:Value):ArrTo w a b S W xs u v (.returned v) w':=
 ⟨rfl,hc.mono (by simp),h.keep hc (by simp) (by simp)⟩
theorem Arr.putSlot {w:World} {a b S W:Nat} {xs:List Slt} {u:Int} (h:Arr w a b S W xs u) {k:Nat} {x:Slt} (hx:xs[k]? =some x) (y:Slt) (hg:Good S W (xs.set k y)):Arr (putRow w b (k*11) (slc y)) a b S W (xs.set k y) u:=by
 have hr:rowHas (w.heap[b]?) (k*11) (slc y).size=true:=by rw [h.2.1,slc_size];exact slt_has hx [] _
 refine ⟨?_,?_,h.2.2.1,hg⟩
 ·rw [heap_putRow _ _ _ _ _ hr,if_neg h.2.2.1,List.length_set];exact h.1
 ·rw [heap_putRow _ _ _ _ _ hr,if_pos rfl,h.2.1];exact slt_put hx [] _ _ y
theorem Arr.putUse {w:World} {a b S W:Nat} {xs:List Slt} {u:Int} (h:Arr w a b S W xs u) {k:Nat} {x:Slt} (hx:xs[k]? =some x) (n:Int) (hg:Good S W (xs.set k (x.use n))):Arr (w.setCell ⟨b,k*11+10,none⟩ (.int .i64 n)) a b S W (xs.set k (x.use n)) u:=by
 refine ⟨?_,?_,h.2.2.1,hg⟩
 ·rw [heap_setCell,if_neg h.2.2.1,List.length_set];exact h.1
 ·rw [heap_setCell,if_pos rfl,h.2.1,rowSet_some,slt_use hx]
theorem adrop_any (a b S W:Nat) (xs:List Slt) (u li:Int) (w:World) (h:Arr w a b S W xs u):
 Calls Tryz.prog 105 #[.pointer (some ⟨a,0,none⟩),.int .i64 li] w (ArrTo w a b S W (dropXs xs li) u (.bool (dropVal xs li))):=by
 have H:=Lib.hid h
 have HG:=Lib.hid (h.2.2.2.dropXs li)
 rcases h.2.2.2.where li with ⟨k,y,e1,e2,hk,hy,hst,hli,h0,e3,e4,e5⟩|⟨e1,e2,e3,e4⟩
 ·unfold dropXs dropVal at *
  rw [e2] at HG ⊢
  rw [show decide (setOf S li*W+k<xs.length)=true by simpa using e5]
  have HH:=Lib.hid e3
  have HL:=Lib.hid (h.2.2.2.seg_len li)
  have HY:=Lib.hid hy
  have hw8:=h.2.2.2.way8
  obtain ⟨f,hf⟩:∃f,setOf S li*W=f:=⟨_,rfl⟩
  have HF:=Lib.hid hf
  rw [hf] at hy ⊢ HG
  have rh:=slt_has hy [] 205
  have rp:=slt_put hy [] 205 (0,0) sltZ
  have hb:=h.2.1
  clear h e1 e2 e3 e4 e5 hst hli hy hf
  go_enter Tryz.func105,Tryz.ntmps105
  go_wp2_with fail
  refine (aset_ok a b S W xs u li w H.out h0).mono ?_
  rintro e w2 ⟨rfl,c2⟩
  have C2:=Lib.hid c2
  clear c2
  go_wp2_with fail
  refine (wayOf_ok _ W W li _ w2 ((H.out.keep C2.out (by simp) (by simp)).sl li) HL.out.symm (by omega)).mono ?_
  rintro e w3 ⟨rfl,c3⟩
  rw [HH.out,HF.out]
  have C3:=Lib.hid (C2.out.trans c3)
  have hb3:=C3.out.keep hb (by simp)
  have ob3:=old hb3
  have g1:(k:Int)<(W:Int):=by omega
  have g0:(0:Int)≤(k:Int):=by omega
  have g2:(W:Int)≤8:=by omega
  have t1:decide ((k:Int)<0)=false:=by simp
  rw [Nat.add_mul] at rh rp
  clear c3 hb
  go_wp2_with fail
  go_ret
  refine ⟨rfl,?_,?_⟩
  ·exact ((C3.out.mono (l':=[a,b]) (by simp)).putRow _ _ _ (.inl (by simp)))
  ·have:=(H.out.keep C3.out (by simp) (by simp)).putSlot (k:=f+k) (by rw [←HF.out];exact HY.out) sltZ HG.out
   rw [Nat.add_mul] at this
   exact this
 ·rw [show dropXs xs li=xs by unfold dropXs;rw [e3,set_none],show dropVal xs li=false by unfold dropVal;rw [e3];simp]
  have HN:=Lib.hid e4
  clear h e1 e2 e3 e4 HG
  go_enter Tryz.func105,Tryz.ntmps105
  go_wp2_with fail
  refine (aset_miss a b S W xs u li w H.out HN.out).mono ?_
  rintro e w2 ⟨A,n,ys,rfl,s2,hn,hn1,hh,c2⟩
  have C2:=Lib.hid c2
  have S2:=Lib.hid s2
  have HH:=Lib.hid hh
  have HN1:=Lib.hid hn
  clear c2 s2 hh hn
  go_wp2_with fail
  refine (wayOf_ok A n n li ys w2 S2.out HN1.out hn1).mono ?_
  rintro e w3 ⟨rfl,c3⟩
  rw [HH.out]
  have C3:=Lib.hid (C2.out.trans c3)
  clear c3
  go_wp2_with fail
  go_ret
  exact ArrTo.same H.out C3.out _
theorem Arr.next {w:World} {a b S W:Nat} {xs:List Slt} {u:Int} (h:Arr w a b S W xs u) (n:Int):Arr (w.setCell ⟨a,3,none⟩ (.int .i64 n)) a b S W xs n:=by
 refine ⟨?_,?_,h.2.2⟩
 ·rw [heap_setCell,if_pos rfl,h.1,rowSet_some];rfl
 ·rw [heap_setCell,if_neg (Ne.symm h.2.2.1)];exact h.2.1
theorem next_ok (a b S W:Nat) (xs:List Slt) (u:Int) (w:World) (h:Arr w a b S W xs u) (h0:0≤u) (h1:u≤1000000000):
 Calls Tryz.prog 157 #[.pointer (some ⟨a,0,none⟩)] w fun e w'=>e=.returned (.int .i64 (u+1))∧w'=w.setCell ⟨a,3,none⟩ (.int .i64 (u+1)):=by
 have ha:=h.1
 have oa:=old ha
 have g1:u+1≤9223372036854775807:=by omega
 have g0: -9223372036854775808≤u+1:=by omega
 clear h
 go_enter Tryz.func157,Tryz.ntmps157
 go_wp2
 go_ret
 exact ⟨rfl,rfl⟩
theorem atouch_any (a b S W:Nat) (xs:List Slt) (u li:Int) (w:World) (h:Arr w a b S W xs u) (u0:0≤u) (u1:u≤1000000000):
 Calls Tryz.prog 192 #[.pointer (some ⟨a,0,none⟩),.int .i64 li] w (ArrTo w a b S W (touchXs xs u li) (touchU xs u li) (.tuple #[])):=by
 have H:=Lib.hid h
 have HG:=Lib.hid (h.2.2.2.touchXs u li)
 rcases h.2.2.2.where li with ⟨k,y,e1,e2,hk,hy,hst,hli,h0,e3,e4,e5⟩|⟨e1,e2,e3,e4⟩
 ·unfold touchXs touchU at *
  rw [e2,hy] at HG ⊢
  rw [if_pos e5]
  have HH:=Lib.hid e3
  have HL:=Lib.hid (h.2.2.2.seg_len li)
  have HY:=Lib.hid hy
  have hw8:=h.2.2.2.way8
  obtain ⟨f,hf⟩:∃f,setOf S li*W=f:=⟨_,rfl⟩
  have HF:=Lib.hid hf
  rw [hf] at hy HG ⊢
  have hce:=slt_us hy []
  have hb:=h.2.1
  have HAB:=Lib.hid h.2.2.1
  clear h e1 e2 e3 e4 e5 hst hli hy hf
  go_enter Tryz.func192,Tryz.ntmps192
  go_wp2_with fail
  refine (aset_ok a b S W xs u li w H.out h0).mono ?_
  rintro e w2 ⟨rfl,c2⟩
  have C2:=Lib.hid c2
  clear c2
  go_wp2_with fail
  refine (wayOf_ok _ W W li _ w2 ((H.out.keep C2.out (by simp) (by simp)).sl li) HL.out.symm (by omega)).mono ?_
  rintro e w3 ⟨rfl,c3⟩
  rw [HH.out,HF.out]
  have C3:=Lib.hid (C2.out.trans c3)
  have g1:(k:Int)<(W:Int):=by omega
  have g0:(0:Int)≤(k:Int):=by omega
  have g2:(W:Int)≤8:=by omega
  have t1:decide ((0:Int)≤(k:Int))=true:=by simp
  have A3:=Lib.hid (H.out.keep C3.out (by simp) (by simp))
  clear c3 hb
  go_wp2_with fail
  refine (next_ok a b S W xs u w3 A3.out u0 u1).mono ?_
  rintro e w4 ⟨rfl,rfl⟩
  have A4:=Lib.hid (A3.out.next (u+1))
  have C4:=Lib.hid ((C3.out.mono (l':=[a,b]) (by simp)).setCell a 3 (.int .i64 (u+1)) (.inl (by simp)))
  have hb4:=A4.out.2.1
  generalize w3.setCell ⟨a,3,none⟩ (.int .i64 (u+1))=w4 at A4 C4 hb4 ⊢
  have ob4:=old hb4
  rw [Nat.add_mul] at hce
  go_wp2_with fail
  go_end0
  refine ⟨rfl,C4.out.setCell _ _ _ (.inl (by simp)),?_⟩
  have:=A4.out.putUse (k:=f+k) (by rw [←HF.out];exact HY.out) (u+1) HG.out
  rw [Nat.add_mul] at this
  exact this
 ·rw [show touchXs xs u li=xs by unfold touchXs;rw [e3,List.getElem?_eq_none (Nat.le_refl _)],show touchU xs u li=u by unfold touchU;rw [e3,if_neg (by omega)]]
  have HN:=Lib.hid e4
  clear h e1 e2 e3 e4 HG
  go_enter Tryz.func192,Tryz.ntmps192
  go_wp2_with fail
  refine (aset_miss a b S W xs u li w H.out HN.out).mono ?_
  rintro e w2 ⟨A,n,ys,rfl,s2,hn,hn1,hh,c2⟩
  have C2:=Lib.hid c2
  have S2:=Lib.hid s2
  have HH:=Lib.hid hh
  have HN1:=Lib.hid hn
  clear c2 s2 hh hn
  go_wp2_with fail
  refine (wayOf_ok A n n li ys w2 S2.out HN1.out hn1).mono ?_
  rintro e w3 ⟨rfl,c3⟩
  rw [HH.out]
  have C3:=Lib.hid (C2.out.trans c3)
  clear c3
  go_wp2_with fail
  go_end0
  exact ArrTo.same H.out C3.out _
theorem asetl_bad (a:Addr) (li st:Int) (l:List Int) (w:World) (h:badSet li st):Calls Tryz.prog 106 #[.pointer (some a),.int .i64 li,.int .i64 st,.agg (vs l)] w fun e w'=>e=.returned (.int .i64 1)∧Chg [] w w':=by
 by_cases h1:li<0
 ·have t1:decide (li<0)=true:=by simpa using h1
  clear h
  go_enter Tryz.func106,Tryz.ntmps106
  go_wp2
  go_ret
  exact ⟨rfl,(Chg.refl _ _).alloc _⟩
 ·have t1:decide (li<0)=false:=by simpa using h1
  by_cases h2:st<1
  ·have t2:decide (st<1)=true:=by simpa using h2
   clear h
   go_enter Tryz.func106,Tryz.ntmps106
   go_wp2
   go_ret
   exact ⟨rfl,(Chg.refl _ _).alloc _⟩
  ·have t2:decide (st<1)=false:=by simpa using h2
   have t3:decide (9<st)=true:=by unfold badSet at h;simp;omega
   clear h
   go_enter Tryz.func106,Tryz.ntmps106
   go_wp2
   go_ret
   exact ⟨rfl,(Chg.refl _ _).alloc _⟩
theorem next_chg (a b S W:Nat) (xs:List Slt) (u:Int) (w:World) (h:Arr w a b S W xs u) (h0:0≤u) (h1:u≤1000000000):
 Calls Tryz.prog 157 #[.pointer (some ⟨a,0,none⟩)] w fun e w'=>e=.returned (.int .i64 (u+1))∧Chg [a] w w'∧Arr w' a b S W xs (u+1):=
 (next_ok a b S W xs u w h h0 h1).mono fun e w' ⟨he,hw⟩=>⟨he,by rw [hw];exact (Chg.refl _ _).setCell _ _ _ (.inl (by simp)),by rw [hw];exact h.next _⟩
theorem asetl_any (a b S W:Nat) (xs:List Slt) (u li st:Int) (l:List Int) (hl8:l.length=8) (w:World) (h:Arr w a b S W xs u) (u0:0≤u) (u1:u≤1000000000):
 Calls Tryz.prog 106 #[.pointer (some ⟨a,0,none⟩),.int .i64 li,.int .i64 st,.agg (vs l)] w (ArrTo w a b S W (setXs S W xs u li st l hl8) (setU S W xs u li st) (.int .i64 (setVal S W xs li st))):=by
 have H:=Lib.hid h
 have HG:=Lib.hid (h.2.2.2.setXs u li st l hl8)
 unfold setXs setU setVal at *
 by_cases hbad:badSet li st
 ·rw [if_pos hbad,if_pos hbad,if_pos hbad]
  exact (asetl_bad ⟨a,0,none⟩ li st l w hbad).mono fun e w' ⟨he,hc⟩=>by rw [he];exact ArrTo.same h hc _
 rw [if_neg hbad] at HG ⊢
 rw [if_neg hbad,if_neg hbad]
 have h0:0≤li:=by unfold badSet at hbad;omega
 have b1:decide (li<0)=false:=by simp;omega
 have b2:decide (st<1)=false:=by unfold badSet at hbad;simp;omega
 have b3:decide (9<st)=false:=by unfold badSet at hbad;simp;omega
 have HL:=Lib.hid (h.2.2.2.seg_len li)
 have hw8:=h.2.2.2.way8
 have HAB:=Lib.hid (show b∉[a] by have:=h.2.2.1;simp;omega)
 clear hbad
 rcases h.2.2.2.where li with ⟨k,y,e1,e2,hk,hy,hst,hli,_,e3,e4,e5⟩|⟨e1,e2,e3,e4⟩
 ·have ep:place S W xs li=setOf S li*W+k:=by unfold place;rw [e2,if_pos e5]
  rw [ep] at HG ⊢
  rw [if_pos e5,if_pos e5]
  have HH:=Lib.hid e3
  obtain ⟨f,hf⟩:∃f,setOf S li*W=f:=⟨_,rfl⟩
  have HF:=Lib.hid hf
  rw [hf] at hy HG ⊢
  have HY:=Lib.hid hy
  clear h e1 e2 e3 e4 e5 hst hli hf ep
  go_enter Tryz.func106,Tryz.ntmps106
  go_wp2_with fail
  have hz:(w.alloc (.cells (vs l) 48)).heap[w.heap.size]? =some (.cells (vs l) 48 (0,0)):=by simp
  have C0:=Lib.hid ((Chg.refl [] w).alloc (.cells (vs l) 48))
  generalize w.alloc (.cells (vs l) 48)=w1 at hz C0 ⊢
  refine (aset_ok a b S W xs u li w1 (H.out.keep C0.out (by simp) (by simp)) h0).mono ?_
  rintro e w2 ⟨rfl,c2⟩
  have hz2:=c2.keep hz (by simp)
  have C2:=Lib.hid (C0.out.trans c2)
  clear hz c2
  go_wp2_with fail
  refine (wayOf_ok _ W W li _ w2 ((H.out.keep C2.out (by simp) (by simp)).sl li) HL.out.symm (by omega)).mono ?_
  rintro e w3 ⟨rfl,c3⟩
  rw [HH.out]
  have C3:=Lib.hid (C2.out.trans c3)
  have hz3:=c3.keep hz2 (by simp)
  clear c3 hz2
  rw [HF.out]
  have g1:(k:Int)<(W:Int):=by omega
  have g0:(0:Int)≤(k:Int):=by omega
  have g2:(W:Int)≤8:=by omega
  have t1:decide ((k:Int)<0)=false:=by simp
  have A3:=Lib.hid (H.out.keep C3.out (by simp) (by simp))
  have oz3:=old hz3
  have HNZ:=Lib.hid (show w.heap.size∉[a] by have:=H.out.olda;simp;omega)
  have HNZ2:=Lib.hid (show w.heap.size∉[a,b] by have:=H.out.olda;have:=H.out.oldb;simp;omega)
  have HNB:=Lib.hid (show (w.heap.size=b)=False by have:=H.out.oldb;simp;omega)
  have hnb:=HNB.out
  have rh:=slt_has hy [] 205
  have rp:=slt_put hy [] 205 (0,0) ⟨st,li,l,u+1,hl8⟩
  rw [Nat.add_mul] at rh rp
  go_wp2_with fail
  go_region_held3 (fun w'=>w'.heap[w.heap.size]? =some (.cells (vs l) 48 (0,0))) (first |exact hz3|exact c4.keep hz3 HNZ.out|exact ((c4.mono (l':=[a,b]) (by simp)).putRow b _ _ (.inl (by simp))).keep hz3 HNZ2.out)
   (first |(go_at_call 157;refine (next_chg a b S W xs u _ (A3.out.keep ((Chg.refl [] w3).drew) (by simp) (by simp)) u0 u1).mono ?_;rintro e w' ⟨rfl,c4,a4⟩;have hb4:=a4.2.1;have ob4:=old hb4))
  all_goals
   have A4:=Lib.hid a4
   have C4:=Lib.hid c4
   clear a4 c4
   go_wp2_with fail
   go_ret
   refine ⟨rfl,?_,?_⟩
   ·exact ((((C3.out.mono (l':=[a,b]) (by simp)).drew).trans (C4.out.mono (l':=[a,b]) (by simp))).putRow _ _ _ (.inl (by simp)))
   ·have:=A4.out.putSlot (k:=f+k) (by rw [←HF.out];exact (show xs[setOf S li*W+k]? =some y by rw [HF.out];exact HY.out)) ⟨st,li,l,u+1,hl8⟩ HG.out
    rw [Nat.add_mul] at this
    exact this
 ·rcases h.2.2.2.room li with ⟨k,y,d1,hk,hy,hst,d3,d4,_⟩|⟨d1,d2,d3⟩
  ·have ep:place S W xs li=setOf S li*W+k:=by unfold place;rw [e3,d1,if_neg (by omega),if_pos hk]
   rw [ep] at HG ⊢
   rw [if_pos d4,if_pos d4]
   have HH:=Lib.hid e1
   have HI:=Lib.hid d3
   obtain ⟨f,hf⟩:∃f,setOf S li*W=f:=⟨_,rfl⟩
   have HF:=Lib.hid hf
   rw [hf] at hy HG ⊢
   have HY:=Lib.hid hy
   clear h e1 e2 e3 e4 d1 d3 d4 hst hf ep
   go_enter Tryz.func106,Tryz.ntmps106
   go_wp2_with fail
   have hz:(w.alloc (.cells (vs l) 48)).heap[w.heap.size]? =some (.cells (vs l) 48 (0,0)):=by simp
   have C0:=Lib.hid ((Chg.refl [] w).alloc (.cells (vs l) 48))
   generalize w.alloc (.cells (vs l) 48)=w1 at hz C0 ⊢
   refine (aset_ok a b S W xs u li w1 (H.out.keep C0.out (by simp) (by simp)) h0).mono ?_
   rintro e w2 ⟨rfl,c2⟩
   have hz2:=c2.keep hz (by simp)
   have C2:=Lib.hid (C0.out.trans c2)
   clear hz c2
   go_wp2_with fail
   refine (wayOf_ok _ W W li _ w2 ((H.out.keep C2.out (by simp) (by simp)).sl li) HL.out.symm (by omega)).mono ?_
   rintro e w3 ⟨rfl,c3⟩
   rw [HH.out]
   have C3:=Lib.hid (C2.out.trans c3)
   have hz3:=c3.keep hz2 (by simp)
   clear c3 hz2
   go_wp2_with fail
   refine (emptyWay_ok _ W W _ w3 ((H.out.keep C3.out (by simp) (by simp)).sl li) HL.out.symm (by omega)).mono ?_
   rintro e w3' ⟨rfl,c3'⟩
   rw [HI.out]
   have C3':=Lib.hid (C3.out.trans c3')
   have hz3':=c3'.keep hz3 (by simp)
   clear c3' hz3 C3
   rw [HF.out]
   have g1:(k:Int)<(W:Int):=by omega
   have g0:(0:Int)≤(k:Int):=by omega
   have g2:(W:Int)≤8:=by omega
   have t1:decide ((k:Int)<0)=false:=by simp
   have A3:=Lib.hid (H.out.keep C3'.out (by simp) (by simp))
   have oz3:=old hz3'
   have HNZ:=Lib.hid (show w.heap.size∉[a] by have:=H.out.olda;simp;omega)
   have HNZ2:=Lib.hid (show w.heap.size∉[a,b] by have:=H.out.olda;have:=H.out.oldb;simp;omega)
   have HNB:=Lib.hid (show (w.heap.size=b)=False by have:=H.out.oldb;simp;omega)
   have hnb:=HNB.out
   have rh:=slt_has hy [] 205
   have rp:=slt_put hy [] 205 (0,0) ⟨st,li,l,u+1,hl8⟩
   rw [Nat.add_mul] at rh rp
   go_wp2_with fail
   go_region_held3 (fun w'=>w'.heap[w.heap.size]? =some (.cells (vs l) 48 (0,0))) (first |exact hz3'|exact c4.keep hz3' HNZ.out|exact ((c4.mono (l':=[a,b]) (by simp)).putRow b _ _ (.inl (by simp))).keep hz3' HNZ2.out)
    (first |(go_at_call 157;refine (next_chg a b S W xs u _ (A3.out.keep ((Chg.refl [] w3').drew) (by simp) (by simp)) u0 u1).mono ?_;rintro e w' ⟨rfl,c4,a4⟩;have hb4:=a4.2.1;have ob4:=old hb4))
   all_goals
    have A4:=Lib.hid a4
    have C4:=Lib.hid c4
    clear a4 c4
    go_wp2_with fail
    go_ret
    refine ⟨rfl,?_,?_⟩
    ·exact ((((C3'.out.mono (l':=[a,b]) (by simp)).drew).trans (C4.out.mono (l':=[a,b]) (by simp))).putRow _ _ _ (.inl (by simp)))
    ·have:=A4.out.putSlot (k:=f+k) (by rw [←HF.out];exact (show xs[setOf S li*W+k]? =some y by rw [HF.out];exact HY.out)) ⟨st,li,l,u+1,hl8⟩ HG.out
     rw [Nat.add_mul] at this
     exact this
  ·have ep:place S W xs li=xs.length:=by unfold place;rw [e3,d2,if_neg (by omega),if_neg (by omega)]
   rw [ep,set_none,if_neg (by omega),if_neg (by omega)]
   have HH:=Lib.hid e1
   have HI:=Lib.hid d1
   clear h e1 e2 e3 e4 d1 d2 d3 ep
   go_enter Tryz.func106,Tryz.ntmps106
   go_wp2_with fail
   have hz:(w.alloc (.cells (vs l) 48)).heap[w.heap.size]? =some (.cells (vs l) 48 (0,0)):=by simp
   have C0:=Lib.hid ((Chg.refl [] w).alloc (.cells (vs l) 48))
   generalize w.alloc (.cells (vs l) 48)=w1 at hz C0 ⊢
   refine (aset_ok a b S W xs u li w1 (H.out.keep C0.out (by simp) (by simp)) h0).mono ?_
   rintro e w2 ⟨rfl,c2⟩
   have hz2:=c2.keep hz (by simp)
   have C2:=Lib.hid (C0.out.trans c2)
   clear hz c2
   go_wp2_with fail
   refine (wayOf_ok _ W W li _ w2 ((H.out.keep C2.out (by simp) (by simp)).sl li) HL.out.symm (by omega)).mono ?_
   rintro e w3 ⟨rfl,c3⟩
   rw [HH.out]
   have C3:=Lib.hid (C2.out.trans c3)
   have hz3:=c3.keep hz2 (by simp)
   clear c3 hz2
   go_wp2_with fail
   refine (emptyWay_ok _ W W _ w3 ((H.out.keep C3.out (by simp) (by simp)).sl li) HL.out.symm (by omega)).mono ?_
   rintro e w3' ⟨rfl,c3'⟩
   rw [HI.out]
   have C3':=Lib.hid (C3.out.trans c3')
   have hz3':=c3'.keep hz3 (by simp)
   clear c3' hz3 C3
   go_wp2_with fail
   go_ret
   exact ArrTo.same H.out C3'.out _
end
section
set_option maxHeartbeats 1000000
attribute [local go_sem ↓] append_appS copy_copS clear_clrS make_mkS cell_row frozen_row loadLine storeLine loadSlot storeSlot heap_drew heap_drewN heap_alloc heap_past heap_setCell heap_putRow slc_st slc_li slc_us
attribute [local go_sem] rowCell_some rowFrozen_some rowHas_some rowIn_some rowPart_full rowPut_full rowSet_some vs_size vs_one wideLine wideSlot run_loadS run_storeS run_appS run_copS run_clrS run_mkS loadW_at storeW_at fit_all fit_le one_int one_bool one_pointer one_slice allOne_list putRow_new ne_size1 ne_size2 zero8_length lines_nil line_eq lit8 slc_size slc_one slc_part fold_slt fold_slc slc_set_us
attribute [local simp ↓] heap_drew heap_drewN heap_alloc heap_past heap_setCell heap_putRow
attribute [local simp] rowCell_some rowFrozen_some rowHas_some rowIn_some rowPart_full rowPut_full rowSet_some vs_size fit_all putRow_new ne_size1 ne_size2 zero8_length slc_size
def SlotsTold (w0:World) (ys:List Slt) (e:Ending) (w':World):Prop:=∃A c,e=.returned (.slice A ys.length c)∧Sl w' 11 A ys.length (cat Slt.enc ys)∧Chg [] w0 w'
theorem slt_slice (w:World) (s:Slt) (t:TypeId):Sl (w.alloc (.cells (slc s) t)) 11 (some ⟨w.heap.size,0,none⟩) 1 (cat Slt.enc [s]):=
 ⟨by rw [cat_length Slt.len];rfl,.inr ⟨w.heap.size,0,slc s,t,(0,0),rfl,by simp,by rw [cat_one];simp [slc,Slt.len,List.take_of_length_le]⟩⟩
theorem live_succ {xs:List Slt} {k:Nat} {y:Slt} (h:xs[k]? =some y) (hs:y.st≠0):live (xs.take k)++[y]=live (xs.take (k+1)):=by rw [live_take h,if_neg hs]
theorem live_skip {xs:List Slt} {k:Nat} {y:Slt} (h:xs[k]? =some y) (hs:y.st=0):live (xs.take k)=live (xs.take (k+1)):=by rw [live_take h,if_pos hs,List.append_nil]
theorem live_take_le (xs:List Slt) (k:Nat):(live (xs.take k)).length≤k:=Nat.le_trans (live_le _) (by rw [List.length_take];exact Nat.min_le_left _ _)
theorem aslots_ok (a b S W:Nat) (xs:List Slt) (u:Int) (w:World) (h:Arr w a b S W xs u):
 Calls Tryz.prog 216 #[.pointer (some ⟨a,0,none⟩)] w (SlotsTold w (live xs)):=by
 have ha:=h.1
 have HB:=Lib.hid h.2.1
 have h64:=h.2.2.2.len64
 have HOA:=Lib.hid h.olda
 obtain ⟨n,hn⟩:∃n,xs.length=n:=⟨_,rfl⟩
 have HN:=Lib.hid hn
 rw [hn] at ha h64
 have g2:(n:Int)≤64:=by omega
 clear h hn
 go_enter Tryz.func216,Tryz.ntmps216
 go_wp2_with fail
 go_loopw [13,3] (fun i s3 wr=>∃(k be cap:Nat) (A:Option Addr),k≤n∧i=.int .i64 k∧s3=.slice A (live (xs.take k)).length cap∧Chg [] w wr∧Vec 11 205 Slt.enc wr a be A cap (live (xs.take k))∧(be=a∨w.heap.size≤be)) (fun i _ _=>n-(intOf i).toNat)
 case atStart=>exact ⟨0,a,0,none,by omega,rfl,rfl,Chg.refl _ _,Vec.nil _ _ _ _ _,.inl rfl⟩
 case round=>
  obtain ⟨k,be,cap,A,hk,rfl,rfl,hc,hv,hbe⟩:=hrel
  have HC:=Lib.hid hc
  have HV:=Lib.hid hv
  have HE:=Lib.hid hbe
  clear hc hv hbe
  by_cases hlt:k<n
  ·obtain ⟨y,hy⟩:∃y,xs[k]? =some y:=⟨xs[k]'(by rw [HN.out];exact hlt),List.getElem?_eq_getElem _⟩
   have hb:=HC.out.keep HB.out (by simp)
   have ob:=old hb
   have r1:=slt_row hy [] 205 (0,0)
   have r2:=slt_rowIn hy [] 205 (0,0)
   have g1:(k:Int)<(n:Int):=by omega
   have g0:(0:Int)≤(k:Int):=by omega
   have HY:=Lib.hid hy
   have HLE:=Lib.hid (live_take_le xs k)
   clear hy
   by_cases hs:y.st=0
   ·have t1:(y.st !=0)=false:=by simp [hs]
    have HP:=Lib.hid (live_skip HY.out hs)
    go_wp2_with fail
    go_roundw
    case rel=>
     rw [HP.out]
     refine ⟨k+1,be,cap,A,by omega,by go_num,rfl,HC.out.alloc _,?_,HE.out⟩
     rw [←HP.out]
     exact HV.out.keep ((Chg.refl [] wr).alloc _) (by simp)
    case measure=>simp [intOf];omega
   ·have t1:(y.st !=0)=true:=by simp [hs]
    have HP:=Lib.hid (live_succ HY.out hs)
    have c1:=(Chg.refl [] wr).alloc (.cells (slc y) 205)
    have hx1:(wr.alloc (.cells (slc y) 205)).heap[wr.heap.size]? =some (.cells (slc y) 205 (0,0)):=by simp
    have e1:(wr.alloc (.cells (slc y) 205)).heap.size=wr.heap.size+1:=by simp
    obtain ⟨be',cap',A',w2,happ,hv2,hbe2,hc2⟩:=Vec.acc (ty:=244) eltSlot (w0:=w) (((HC.out.alloc (.cells (slc y) 205)).alloc (.cells (slc y) 205)))
     ((HV.out.keep c1 (by simp)).keep ((Chg.refl [] _).alloc (.cells (slc y) 205)) (by simp)) HE.out HOA.out (slt_slice (wr.alloc (.cells (slc y) 205)) y 205) (c:=1) rfl (by have:=HLE.out;omega) (by have:=HLE.out;unfold maxLen;omega)
    rw [e1] at happ
    have HV2:=Lib.hid hv2
    have HB2:=Lib.hid hbe2
    have HC2:=Lib.hid hc2
    clear hv2 hbe2 hc2 c1 e1
    go_wp2_with fail
    go_roundw
    case rel=>
     refine ⟨k+1,be',cap',A',by omega,by go_num,?_,HC2.out,by rw [←HP.out];exact HV2.out,HB2.out⟩
     rw [←HP.out,List.length_append];rfl
    case measure=>simp [intOf];omega
  ·obtain rfl:k=n:=by omega
   go_wp2_with fail
   go_ret
   have e1:live (xs.take k)=live xs:=by rw [←HN.out,List.take_length]
   rw [e1] at HV ⊢
   exact ⟨A,cap,rfl,HV.out.sl Slt.len,HC.out⟩
def goodNew (s w:Int):Prop:=(s=1∨s=2∨s=4∨s=8)∧1≤w∧w≤8
instance (s w:Int):Decidable (goodNew s w):=inferInstanceAs (Decidable (_∧_))
theorem run_make_slots (w:World) (n:Nat) (hn:n≤64):mkR Tryz.prog 244 (.int .i64 n) (.int .i64 n) w=.ok (.slice (some ⟨w.heap.size,0,none⟩) n n) (w.alloc (.cells (sq Slt.enc (List.replicate n sltZ) []) 205)):=by
 obtain ⟨i0,hi0,hz0,hz1,hz2⟩:=info_parts slot_info
 have:=run_make (P:=Tryz.prog) w 244 205 i0 _ Tryz.underlying244 hi0 hz0 .i64 .i64 n n (by omega) (by omega) (by rw [hz2];omega) (by omega)
 simp only [Int.toNat_natCast,hz1] at this
 rw [←made_slots]
 exact this
def MadeArr (w0:World) (S W:Nat) (e:Ending) (w':World):Prop:=
 ∃a b,e=.returned (.tuple #[.pointer (some ⟨a,0,none⟩),.int .i64 0])∧w0.heap.size≤a∧w0.heap.size≤b∧Chg [] w0 w'∧Arr w' a b S W (List.replicate (S*W) sltZ) 0
theorem anew_ok (S W:Nat) (w:World) (h:goodNew S W):Calls Tryz.prog 120 #[.int .i64 S,.int .i64 W] w (MadeArr w S W):=by
 have HS:=Lib.hid (show S=1∨S=2∨S=4∨S=8 by unfold goodNew at h;omega)
 have hW1:1≤W:=by unfold goodNew at h;omega
 have hW8:W≤8:=by unfold goodNew at h;omega
 have t1:decide ((W:Int)<1)=false:=by simp;omega
 have t2:decide ((8:Int)<(W:Int))=false:=by simp;omega
 have hS8:S≤8:=by have:=HS.out;omega
 have h64:S*W≤64:=Nat.mul_le_mul hS8 hW8
 have HG:=Lib.hid (Good.new HS.out hW1 hW8)
 obtain ⟨N,hN⟩:∃N,S*W=N:=⟨_,rfl⟩
 have hN':(S:Int)*(W:Int)=(N:Int):=by rw [←hN,Int.natCast_mul]
 rw [hN] at h64 HG
 have hmk:=run_make_slots w N h64
 have g2:(N:Int)≤64:=by omega
 unfold MadeArr
 rw [hN]
 clear h hN
 go_enter Tryz.func120,Tryz.ntmps120
 go_wp2_with (go_at_call 166;refine (isSets_yes S _ HS.out).mono ?_;rintro e w' ⟨rfl,rfl⟩)
 go_ret2
 refine ⟨w.heap.size+1,w.heap.size,rfl,by omega,by omega,((Chg.refl [] w).alloc _).alloc _,?_,?_,by omega,HG.out⟩
 ·simp
 ·simp
end
section
set_option maxHeartbeats 1000000
attribute [local go_sem ↓] append_appS copy_copS clear_clrS make_mkS cell_row frozen_row loadLine storeLine loadSlot storeSlot heap_drew heap_drewN heap_alloc heap_past heap_setCell heap_putRow slc_st slc_li slc_us
attribute [local go_sem] rowCell_some rowFrozen_some rowHas_some rowIn_some rowPart_full rowPut_full rowSet_some vs_size vs_one wideLine wideSlot run_loadS run_storeS run_appS run_copS run_clrS run_mkS loadW_at storeW_at fit_all fit_le one_int one_bool one_pointer one_slice allOne_list putRow_new ne_size1 ne_size2 zero8_length lines_nil line_eq lit8 slc_size slc_one slc_part fold_slt fold_slc slc_set_us
attribute [local simp ↓] heap_drew heap_drewN heap_alloc heap_past heap_setCell heap_putRow
attribute [local simp] rowCell_some rowFrozen_some rowHas_some rowIn_some rowPart_full rowPut_full rowSet_some vs_size fit_all putRow_new ne_size1 ne_size2 zero8_length slc_size
def ASys (W w:World) (a b S N:Nat) (xs:List Slt) (u:Int):Prop:=Chg [] W w∧Arr w a b S N xs u∧W.heap.size≤a∧W.heap.size≤b
theorem ASys.keep {W w w':World} {a b S N:Nat} {xs:List Slt} {u:Int} (h:ASys W w a b S N xs u) (hc:Chg [] w w'):ASys W w' a b S N xs u:=
 ⟨h.1.trans hc,h.2.1.keep hc (by simp) (by simp),h.2.2⟩
theorem ASys.in2 {W w:World} {a b S N:Nat} {xs:List Slt} {u:Int} (h:ASys W w a b S N xs u):∀x∈[a,b],x∈([]:List Nat)∨W.heap.size≤x:=by
 intro x hx
 have:=h.2.2
 simp only [List.mem_cons,List.not_mem_nil,or_false] at hx
 rcases hx with rfl|rfl<;>omega
theorem ASys.new2 {W w:World} {a b S N:Nat} {xs:List Slt} {u:Int} (h:ASys W w a b S N xs u) {k:Nat} (hk:w.heap.size≤k):k∉[a,b]:=by
 have h1:=h.2.1.olda
 have h2:=h.2.1.oldb
 simp;omega
theorem ASys.good {W w:World} {a b S N:Nat} {xs:List Slt} {u:Int} (h:ASys W w a b S N xs u):Good S N xs:=h.2.1.2.2.2
def ASysTo (W w:World) (a b S N:Nat) (xs:List Slt) (u:Int) (v:Value) (e:Ending) (w':World):Prop:=e=.returned v∧ASys W w' a b S N xs u∧Chg [a,b] w w'
theorem ASys.to {W w:World} {a b S N:Nat} {xs xs':List Slt} {u u':Int} (h:ASys W w a b S N xs u) {v:Value} {f:FuncId} {args:Array Value} (hc:Calls Tryz.prog f args w (ArrTo w a b S N xs' u' v)):Calls Tryz.prog f args w (ASysTo W w a b S N xs' u' v):=
 hc.mono fun e w' ⟨he,hc,ha⟩=>⟨he,⟨h.1.trans' hc h.in2,ha,h.2.2⟩,hc⟩
section
variable {W w:World} {a b S N:Nat} {xs:List Slt} {u:Int} (h:ASys W w a b S N xs u)
include h
theorem sys_set (u0:0≤u) (u1:u≤1000000000) (li st:Int) (l:List Int) (hl8:l.length=8):Calls Tryz.prog 106 #[.pointer (some ⟨a,0,none⟩),.int .i64 li,.int .i64 st,.agg (vs l)] w (ASysTo W w a b S N (setXs S N xs u li st l hl8) (setU S N xs u li st) (.int .i64 (setVal S N xs li st))):=
 h.to (asetl_any a b S N xs u li st l hl8 w h.2.1 u0 u1)
theorem sys_touch (u0:0≤u) (u1:u≤1000000000) (li:Int):Calls Tryz.prog 192 #[.pointer (some ⟨a,0,none⟩),.int .i64 li] w (ASysTo W w a b S N (touchXs xs u li) (touchU xs u li) (.tuple #[])):=
 h.to (atouch_any a b S N xs u li w h.2.1 u0 u1)
theorem sys_drop (li:Int):Calls Tryz.prog 105 #[.pointer (some ⟨a,0,none⟩),.int .i64 li] w (ASysTo W w a b S N (dropXs xs li) u (.bool (dropVal xs li))):=
 h.to (adrop_any a b S N xs u li w h.2.1)
end
theorem sys_new (S N:Nat) (W w:World) (hc:Chg [] W w) (h:goodNew S N):Calls Tryz.prog 120 #[.int .i64 S,.int .i64 N] w fun e w'=>∃a b,e=.returned (.tuple #[.pointer (some ⟨a,0,none⟩),.int .i64 0])∧ASys W w' a b S N (List.replicate (S*N) sltZ) 0∧Chg [] w w':=
 (anew_ok S N w h).mono fun e w' ⟨a,b,he,h1,h2,h3,h4⟩=>⟨a,b,he,⟨hc.trans h3,h4,by have:=hc.size;omega,by have:=hc.size;omega⟩,h3⟩
end
section
set_option maxHeartbeats 1000000
set_option maxRecDepth 100000
attribute [local go_sem ↓] append_appS copy_copS clear_clrS make_mkS cell_row frozen_row loadLine storeLine loadSlot storeSlot heap_drew heap_drewN heap_alloc heap_past heap_setCell heap_putRow slc_st slc_li slc_us slice_slS loadMsg storeMsg loadHas storeHas msc_kd msc_li msc_di msc_ke
attribute [local go_sem] rowCell_some rowFrozen_some rowHas_some rowIn_some rowPart_full rowPut_full rowSet_some vs_size vs_one wideLine wideSlot run_loadS run_storeS run_appS run_copS run_clrS run_mkS loadW_at storeW_at fit_all fit_le one_int one_bool one_pointer one_slice allOne_list putRow_new ne_size1 ne_size2 zero8_length lines_nil line_eq lit8 slc_size slc_one slc_part fold_slt fold_slc slc_set_us wideMsg wideHas run_slS msc_size msc_one msc_part fold_msc msc_putDi msc_putKe msc_putX ms4_lit
attribute [local simp ↓] heap_drew heap_drewN heap_alloc heap_past heap_setCell heap_putRow
attribute [local simp] rowCell_some rowFrozen_some rowHas_some rowIn_some rowPart_full rowPut_full rowSet_some vs_size fit_all putRow_new ne_size1 ne_size2 zero8_length slc_size msc_size msc_putDi msc_putKe msc_putX fit_le
attribute [local go_sem ↓] mlitZ
attribute [local simp] mlitZ
theorem mqlen_ok (T:TypeId) (C:Array Value) (q o:Nat) (A:Option Addr) (n cap:Nat) (w:World) (hq:w.heap[q]? =some (.cells C T (0,0))) (hC:C[o]? =some (.slice A n cap)):Calls Tryz.prog 144 #[.pointer (some ⟨q,o,none⟩)] w fun e w'=>e=.returned (.int .i64 n)∧w=w':=by
 go_enter Tryz.func144,Tryz.ntmps144
 try dsimp only [List.append]
 go_wp2_with fail
 go_ret
 exact ⟨rfl,rfl⟩
theorem qhead_ok (T:TypeId) (C:Array Value) (q o:Nat) (be:Nat) (A:Option Addr) (cap:Nat) (xs:List Ms) (w:World) (hq:w.heap[q]? =some (.cells C T (0,0))) (hC:C[o]? =some (.slice A xs.length cap)) (hl:xs.length≤1000) (hV:Vof 12 50 Ms.enc w q be A cap xs):
 Calls Tryz.prog 93 #[.pointer (some ⟨q,o,none⟩)] w fun e w'=>e=.returned (.tuple #[.agg (msc (headM xs)),.bool (someB xs)])∧Chg [] w w':=by
 cases xs with
 |nil=>
  have HQ:=Lib.hid hq
  clear hV
  go_enter Tryz.func93,Tryz.ntmps93
  try dsimp only [List.append]
  go_wp2_with fail
  refine (mqlen_ok T C q o A 0 cap _ (((Chg.refl [] w).alloc (.cells (msc msZ) 50)).keep HQ.out (by simp)) hC).mono ?_
  rintro e w' ⟨rfl,rfl⟩
  go_wp2_with fail
  refine bodyPost_ret (v:=.tuple #[.agg (msc msZ),.bool false]) ?_ (by rfl) ?_
  ·exact results_msg2 (by rfl) _ _ w.heap.size msZ (0,0) (by rfl) (by simp [*]) _ (by rfl)
  ·exact ⟨rfl,(Chg.refl _ _).alloc _⟩
 |cons x xs=>
  obtain ⟨hne,o',C',rfl,hb,hi,hp⟩:=hV.first Ms.len
  have hp':rowPart (some (.cells C' 50 (0,0))) o' 12=msc x:=hp
  have oq:=old hq
  have ob:=old hb
  have l6:(xs.length:Int)+1≤1000:=by simp at hl;omega
  have g1:(0:Int)<(xs.length:Int)+1:=by omega
  have t1:(((xs.length:Int)+1)==0)=false:=by simp;omega
  have hC':C[o]? =some (.slice (some ⟨be,o',none⟩) (xs.length+1) cap):=hC
  have HQ:=Lib.hid hq
  rw [headM_cons]
  clear hV hp hl hC
  go_enter Tryz.func93,Tryz.ntmps93
  try dsimp only [List.append]
  go_wp2_with (go_at_call 144;refine (mqlen_ok T C q o _ (xs.length+1) cap _ (((Chg.refl [] w).alloc (.cells (msc msZ) 50)).keep HQ.out (by simp)) hC').mono ?_;rintro e w' ⟨rfl,rfl⟩;rw [show ((xs.length+1:Nat):Int)=(xs.length:Int)+1 by simp])
  refine bodyPost_ret (v:=.tuple #[.agg (msc x),.bool true]) ?_ (by rfl) ?_
  ·exact results_msg2 (by rfl) _ _ w.heap.size x (0,0) (by rfl) (by simp [*]) _ (by rfl)
  ·exact ⟨rfl,(Chg.refl _ _).alloc _⟩
def QueTo (T:TypeId) (C:Array Value) (q o be:Nat) (w:World) (ys:List Ms) (v:Value):Ending→World→Prop:=fun e w'=>
 e=.returned v∧∃be' A' cap',w'.heap[q]? =some (.cells (C.setIfInBounds o (.slice A' ys.length cap')) T (0,0))∧Vof 12 50 Ms.enc w' q be' A' cap' ys∧Chg [q,be] w w'∧(be'=be∨w.heap.size≤be')
theorem setSame {C:Array Value} {o:Nat} {v:Value} (h:C[o]? =some v):C.setIfInBounds o v=C:=by
 obtain ⟨h1,h2⟩:=Array.getElem?_eq_some_iff.1 h
 apply Array.ext_getElem?
 intro i
 rw [Array.getElem?_setIfInBounds]
 split
 ·rename_i e
  subst e
  rw [h]
 ·rfl
theorem qpop_ok (T:TypeId) (C:Array Value) (q o:Nat) (be:Nat) (A:Option Addr) (cap:Nat) (xs:List Ms) (w:World) (hq:w.heap[q]? =some (.cells C T (0,0))) (hC:C[o]? =some (.slice A xs.length cap)) (hl:xs.length≤1000) (hV:Vof 12 50 Ms.enc w q be A cap xs):
 Calls Tryz.prog 100 #[.pointer (some ⟨q,o,none⟩)] w (QueTo T C q o be w xs.tail (.tuple #[.agg (msc (headM xs)),.bool (someB xs)])):=by
 have oq:=old hq
 have r0:(w.alloc (.cells (msc msZ) 50)).heap[w.heap.size]? =some (.cells (msc msZ) 50 (0,0)):=by simp
 have C0:=Lib.hid ((Chg.refl [] w).alloc (.cells (msc msZ) 50))
 have hhd:=fun w1 (c:Chg [] w w1)=>qhead_ok T C q o be A cap xs w1 (c.keep hq (by simp)) hC hl (hV.keep c (by simp))
 have HH:=Lib.hid hhd
 have HV:=Lib.hid hV
 have HQ:=Lib.hid hq
 have HL:=Lib.hid hl
 have HQS:w.heap.size≠q:=by have:=oq.lt;omega
 have HQT:q≠w.heap.size:=fun e=>HQS e.symm
 clear hhd hV oq hl
 cases xs with
 |nil=>
  have HC:=Lib.hid hC
  clear hC hq
  go_enter Tryz.func100,Tryz.ntmps100
  try dsimp only [List.append]
  go_wp2_with fail
  generalize w.alloc (.cells (msc msZ) 50)=w1 at r0 C0 ⊢
  refine (HH.out w1 C0.out).mono ?_
  rw [headM_nil,show someB ([]:List Ms)=false from rfl]
  rintro e w2 ⟨rfl,c2⟩
  have r2:=c2.keep r0 (by simp)
  have o2:=old r2
  have C2:=Lib.hid (C0.out.trans c2)
  clear r0 C0 c2
  go_wp2_with fail
  refine bodyPost_ret (v:=.tuple #[.agg (msc msZ),.bool false]) ?_ (by rfl) ?_
  ·exact results_msg2 (by rfl) _ _ w.heap.size msZ (0,0) (by rfl) (by simp [*]) _ (by rfl)
  ·have C9:=(C2.out.alloc (.cells (msc msZ) 50)).putRow w.heap.size 0 (msc msZ) (.inr (by simp))
   refine ⟨rfl,be,A,cap,?_,HV.out.keep C9 (by simp),C9.mono (by simp),.inl rfl⟩
   rw [show (([]:List Ms).tail.length)=([]:List Ms).length from rfl,setSame HC.out]
   exact C9.keep HQ.out (by simp)
 |cons x xs=>
  have hsl:=slR_tail (P:=Tryz.prog) eltMsg A xs.length cap (by have:=HV.out.le;simpa using this)
  have HT:=Lib.hid (HV.out.tail Ms.len)
  have hne:=(HV.out.first Ms.len).1
  have HN:=Lib.hid hne
  have OB:=Lib.hid (HV.out.old (old HQ.out))
  have hC':C[o]? =some (.slice A (xs.length+1) cap):=hC
  have OI:=Lib.hid (Array.getElem?_eq_some_iff.1 hC).1
  have HC:=Lib.hid hC'
  clear hne hC hC' hq
  go_enter Tryz.func100,Tryz.ntmps100
  try dsimp only [List.append]
  go_wp2_with fail
  generalize w.alloc (.cells (msc msZ) 50)=w1 at r0 C0 ⊢
  refine (HH.out w1 C0.out).mono ?_
  rw [headM_cons,show someB (x::xs)=true from rfl]
  rintro e w2 ⟨rfl,c2⟩
  have r2:=c2.keep r0 (by simp)
  have o2:=old r2
  have C2:=Lib.hid (C0.out.trans c2)
  have q2:=C2.out.keep HQ.out (by simp)
  have oq2:=old q2
  have hC':=HC.out
  clear r0 C0 c2
  go_wp2_with fail
  refine bodyPost_ret (v:=.tuple #[.agg (msc x),.bool true]) ?_ (by rfl) ?_
  ·exact results_msg2 (by rfl) _ _ w.heap.size x (0,0) (by rfl) (by simp [*]) _ (by rfl)
  ·have C9:=(((Chg.refl [q] w2).alloc (.cells (msc x) 50)).setCell q o (.slice (behind 12 A cap) xs.length (cap-1)) (.inl (by simp))).mono (l':=[q,w.heap.size]) (by simp)
   have C9:=C9.putRow w.heap.size 0 (msc x) (.inl (by simp))
   have hq9:(putRow ((w2.alloc (.cells (msc x) 50)).setCell ⟨q,o,none⟩ (.slice (behind 12 A cap) xs.length (cap-1))) w.heap.size 0 (msc x)).heap[q]? =some (.cells (C.setIfInBounds o (.slice (behind 12 A cap) xs.length (cap-1))) T (0,0)):=by simp [*]
   have hbw:be≠w.heap.size:=by have:=OB.out.lt;omega
   have hbs:=HN.out
   refine ⟨rfl,be,_,_,hq9,?_,(C2.out.mono (l':=[q,be]) (by simp)).trans' C9 (by simp),.inl rfl⟩
   exact (HT.out.keep C2.out (by simp)).keep C9 (by simp;exact ⟨HN.out,hbw⟩)
theorem qpush_ok (T:TypeId) (C:Array Value) (q o:Nat) (be:Nat) (A:Option Addr) (cap:Nat) (xs:List Ms) (m:Ms) (w:World) (hq:w.heap[q]? =some (.cells C T (0,0))) (hC:C[o]? =some (.slice A xs.length cap)) (hl:xs.length<1000) (hV:Vof 12 50 Ms.enc w q be A cap xs) (hT:Tab w) (hm:mg m=true):
 Calls Tryz.prog 101 #[.pointer (some ⟨q,o,none⟩),.agg (msc m)] w (QueTo T C q o be w (xs++[m]) (.int .i64 0)):=by
 have r0:(w.alloc (.cells (msc m) 50)).heap[w.heap.size]? =some (.cells (msc m) 50 (0,0)):=by simp
 have C0:=Lib.hid ((Chg.refl [] w).alloc (.cells (msc m) 50))
 have hg1:∀w1,Chg [] w w1→Calls Tryz.prog 96 #[.agg (msc m)] w1 (fun e w'=>e=.returned (.bool true)∧Chg [] w1 w'):=fun w1 c=>hm▸mgood_any m w1 (hT.keep c (by simp))
 have HG:=Lib.hid hg1
 have HV:=Lib.hid hV
 have HQ:=Lib.hid hq
 have HF:=Lib.hid hl
 have HC:=Lib.hid hC
 have OI:=Lib.hid (Array.getElem?_eq_some_iff.1 hC).1
 have t1:decide ((1000:Int)≤(xs.length:Int))=false:=by simp;omega
 clear hg1 hV hq hC hT hm hl
 go_enter Tryz.func101,Tryz.ntmps101
 try dsimp only [List.append]
 go_wp2_with fail
 generalize w.alloc (.cells (msc m) 50)=w1 at r0 C0 ⊢
 refine (HG.out w1 C0.out).mono ?_
 rintro e w2 ⟨rfl,c2⟩
 have r2:=c2.keep r0 (by simp)
 have o2:=old r2
 have C2:=Lib.hid (C0.out.trans c2)
 have q2:=C2.out.keep HQ.out (by simp)
 have oq:=old q2
 have hC:=HC.out
 clear r0 C0 c2
 have ca:=((Chg.refl [] w2).alloc (.cells (msc m) 50)).drew
 obtain ⟨be',cap',A',w3,happ,hv2,hbe,hc2,hqq⟩:=((HV.out.keep C2.out (by simp)).keep ca (by simp)).app (ty:=120) eltMsg (oq.chg ca) (msg_slice w2 m) (c:=1) rfl (by have:=HF.out;omega) (by have:=HF.out;unfold maxLen;omega)
 have hq2:w3.heap[q]? =some (.cells C T (0,0)):=by rw [hqq];exact ca.keep q2 (by simp)
 have HV2:=Lib.hid hv2
 have HB:=Lib.hid hbe
 have HC2:=Lib.hid hc2
 have HCA:=Lib.hid ca
 clear hv2 hbe hc2 hqq ca
 go_wp2_with fail
 go_region
 all_goals
  go_wp2
  go_ret
  have hsz:w.heap.size≤w2.heap.size:=C2.out.size
  have hne:be'≠q:=by
   obtain ⟨x,l,hl⟩:∃x l,xs++[m]=x::l:=by cases xs<;>simp
   exact ((hl▸HV2.out).first Ms.len).1
  have hbn:be'=be∨w.heap.size≤be':=by
   have h1:=HB.out
   have h3:((w2.alloc (.cells (msc m) 50)).drew).heap.size=w2.heap.size+1:=by simp
   omega
  have C9:Chg [q,be] w (w3.setCell ⟨q,o,none⟩ (.slice A' (xs.length+1) cap')):=(((C2.out.trans HCA.out).mono (l':=[q,be]) (by simp)).trans' HC2.out (by simp)).setCell _ _ _ (.inl (by simp))
  refine ⟨rfl,be',A',cap',?_,?_,C9,hbn⟩
  ·rw [show (xs++[m]).length=xs.length+1 by simp]
   simp [hq2]
  ·exact HV2.out.keep ((Chg.refl [q] w3).setCell _ _ _ (.inl (by simp))) (by simpa using hne)
end
end Go.Proofs.YtcjoinhngdfdmaaGreatDoor
