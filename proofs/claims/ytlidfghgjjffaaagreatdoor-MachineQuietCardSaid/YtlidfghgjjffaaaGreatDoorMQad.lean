/- Texts of the walk, one behind the other: Arr Arra Arrb Arrt Arrw Que Quz. No condition. -/
import Derived.Test.YtlidfghgjjffaaaGreatDoorMQaa
import Derived.Test.YtlidfghgjjffaaaGreatDoorMQab
import Derived.Test.YtlidfghgjjffaaaGreatDoorMQac
import Derived.BigQuiet
import Derived.ChangeKeysEq
import Derived.Deep.Cut
import Derived.Deep.CutBlock
import Derived.Deep.CutRange
import Derived.Deep.DeepCutAuto
import Derived.Deep.QuietTactic
import Derived.Deep.RegionHeld3
import Derived.Deep.RegionWith
import Derived.Laws.StructEq
namespace Go.Proofs.YtlidfghgjjffaaaGreatDoor
open Go.RowKit
set_option linter.unusedVariables false
section
theorem ZE:Wide Tryz.prog 147 11:=⟨⟨_,Tryz.underlying147,by rfl⟩,by kernel_rfl⟩
theorem ZH (x:Value):Instr.loadAt 147 x=Qdf 147 11 x:=rfl
theorem Zt (x y:Value):Instr.storeAt 147 x y=Qar 147 11 x y:=rfl
attribute [local go_sem ↓] Qv QF Qx QP QG Qs Zg Q7 ZH Zt Qk Qh heap_alloc Ql heap_setCell Qc XG XP XO
attribute [local go_sem] Qb Qa Qe Qi Qd Qg Qf Qt Zk Zf ZE QB Qw QN QL QM Q6 QJ QA Qr QD QX QI Qq QC Qp Qj Qo Qn Qm Zj Zv lit8 QV Xc ZG
attribute [local simp ↓] Qk Qh heap_alloc Ql heap_setCell Qc
attribute [local simp] Qb Qa Qe Qi Qd Qg Qf Qt Qr Qj Qo Qn Qm QV
theorem slot_info:(Tryz.prog.info? 147).map (fun i=>(i.zero,i.size,i.bytes))=some (some sltV,11,88):=by kernel_rfl
theorem eltSlot:Elt Tryz.prog 144 147 11 88 sltV Slt.enc where
 slice:=Tryz.underlying144
 info:=slot_info
 zero:=sltV_size
 zone:=sltV_one
 pos:=by omega
 len:=Slt.len
 one:=Slt.one
theorem quiet_same {P:Program} {f:FuncId} {args:Array Value} {w:World} {n:Nat} {v:Value} (h:Calls P f args (w.drewN n) fun e w'=>e=.returned v∧w.drewN n=w'):Calls P f args (w.drewN n) fun e w''=>e=.returned v∧∃m,w''=w.drewN m:=
 h.mono fun _ _ ⟨he,hm⟩=>⟨he,n,hm.symm⟩
theorem geomSet_ok (S:Nat) (li:Int) (w:World) (h:S=1∨S=2∨S=4∨S=8) (h0:0≤li):Calls Tryz.prog 234 #[.int .i64 S,.int .i64 li] w fun e w'=>e=.returned (.int .i64 (XN S li))∧w=w':=by
 obtain ⟨m,rfl⟩:=Int.eq_ofNat_of_zero_le h0
 have t1:decide ((m:Int)<0)=false:=by simp
 unfold XN
 rw [Int.toNat_natCast]
 rcases h with rfl|rfl|rfl|rfl
 all_goals
  go_enter Tryz.func234,Tryz.ntmps234
  go_wp2
  go_ret
  exact ⟨by first |rfl|(simp;done)|(simp;omega)|trace_state,rfl⟩
theorem isSets_yes (S:Nat) (w:World) (h:S=1∨S=2∨S=4∨S=8):Calls Tryz.prog 131 #[.int .i64 S] w fun e w'=>e=.returned (.bool true)∧w=w':=by
 rcases h with rfl|rfl|rfl|rfl
 all_goals
  go_enter Tryz.func131,Tryz.ntmps131
  go_wp2
  go_ret
  exact ⟨rfl,rfl⟩
theorem Qf5 (s:Int) (w:World):Calls Tryz.prog 269 #[.int .i64 s] w fun e w'=>e=.returned (.bool (YO s))∧w=w':=by
 by_cases h:s=1∨s=2∨s=3
 ·rcases h with rfl|rfl|rfl
  all_goals
   go_enter Tryz.func269,Tryz.ntmps269
   go_wp2
   go_ret
   exact ⟨rfl,rfl⟩
 ·have t1:(s==1)=false:=by simp;omega
  have t2:(s==2)=false:=by simp;omega
  have t3:(s==3)=false:=by simp;omega
  have hr:YO s=false:=by unfold YO;simp;omega
  rw [hr]
  go_enter Tryz.func269,Tryz.ntmps269
  go_wp2
  go_ret
  exact ⟨rfl,rfl⟩
theorem Qbc (A:Option Addr) (n c:Nat) (li:Int) (ys:List Slt) (w:World) (h:Sl w 11 A n (cat Slt.enc ys)) (hn:n=ys.length) (hn8:n≤100000):
 Calls Tryz.prog 214 #[.slice A n c,.int .i64 li] w fun e w'=>e=.returned (.int .i64 (hit (X9 li) ys))∧Chg [] w w':=by
 have H:=Vh h
 have HN:=Vh hn
 clear h hn
 go_enter Tryz.func214,Tryz.ntmps214
 go_wp2
 go_loopw [9] (fun i wr=>∃k:Nat,k≤n∧i=.int .i64 k∧Chg [] w wr∧∀x∈ys.take k,X9 li x=false) (fun i _=>n-(intOf i).toNat)
 case atStart=>exact ⟨0,by omega,rfl,Chg.refl _ _,by simp⟩
 case round=>
  obtain ⟨k,hk,rfl,hc,hno⟩:=hrel
  have HC:=Vh hc
  have HNO:=Vh hno
  clear hno hc
  by_cases hlt:k<n
  ·obtain ⟨b,o,rfl⟩:=H.out.addr (by omega)
   obtain ⟨y,hy⟩:∃y,ys[k]? =some y:=⟨ys[k]'Cz12,List.getElem?_eq_getElem _⟩
   obtain ⟨cs,t,f,hb,hce,hpa⟩:=(H.out.chg HC.out (by simp)).elem (by omega) hlt (YI Slt.len hy)
   obtain ⟨r1,r2⟩:=hpa 0 11 (by omega)
   have e11:((Slt.enc y).drop 0 |>.take 11).toArray=slc y:=by rw [List.drop_zero,List.take_of_length_le (by rw [Slt.len];exact Nat.le_refl _)];rfl
   rw [e11,Nat.add_zero] at r2
   rw [Nat.add_zero] at r1
   have g1:(k:Int)<(n:Int):=by omega
   have g0:(0:Int)≤(k:Int):=by omega
   have g2:(n:Int)≤100000:=by omega
   have HY:=Vh hy
   clear hy hce hpa e11
   by_cases hs:y.st=0
   ·have t1:(y.st !=0)=false:=by simp [hs]
    have t1':(y.st==0)=true:=by simp [hs]
    have HP:=Vh (take_all HY.out (show X9 li y=false by simp [X9,hs]) HNO.out)
    go_wp2
    go_roundw
    case rel=>exact ⟨k+1,by omega,by go_num,HC.out.alloc _,HP.out⟩
    case measure=>simp [intOf];omega
   ·have t1:(y.st !=0)=true:=by simp [hs]
    have t1':(y.st==0)=false:=by simp [hs]
    by_cases hli:y.li=li
    ·have t2:(y.li==li)=true:=by simp [hli]
     have HP:=Vh (hit_at HY.out (show X9 li y=true by simp [X9,hs,hli]) HNO.out)
     go_wp2
     go_ret
     exact ⟨by rw [HP.out];rfl,HC.out.alloc _⟩
    ·have t2:(y.li==li)=false:=by simp [hli]
     have HP:=Vh (take_all HY.out (show X9 li y=false by simp [X9,hs,hli]) HNO.out)
     go_wp2
     go_roundw
     case rel=>exact ⟨k+1,by omega,by go_num,HC.out.alloc _,HP.out⟩
     case measure=>simp [intOf];omega
  ·obtain rfl:k=n:=by omega
   go_wp2
   go_ret
   exact ⟨by rw [Qed (by have:=HNO.out;rw [HN.out,List.take_length] at this;exact this)];rfl,HC.out⟩
theorem Qb3 (A:Option Addr) (n c:Nat) (ys:List Slt) (w:World) (h:Sl w 11 A n (cat Slt.enc ys)) (hn:n=ys.length) (hn8:n≤100000):
 Calls Tryz.prog 215 #[.slice A n c] w fun e w'=>e=.returned (.int .i64 (hit Qch ys))∧Chg [] w w':=by
 have H:=Vh h
 have HN:=Vh hn
 clear h hn
 go_enter Tryz.func215,Tryz.ntmps215
 go_wp2
 go_loopw [7] (fun i wr=>∃k:Nat,k≤n∧i=.int .i64 k∧Chg [] w wr∧∀x∈ys.take k,Qch x=false) (fun i _=>n-(intOf i).toNat)
 case atStart=>exact ⟨0,by omega,rfl,Chg.refl _ _,by simp⟩
 case round=>
  obtain ⟨k,hk,rfl,hc,hno⟩:=hrel
  have HC:=Vh hc
  have HNO:=Vh hno
  clear hno hc
  by_cases hlt:k<n
  ·obtain ⟨b,o,rfl⟩:=H.out.addr (by omega)
   obtain ⟨y,hy⟩:∃y,ys[k]? =some y:=⟨ys[k]'Cz12,List.getElem?_eq_getElem _⟩
   obtain ⟨cs,t,f,hb,hce,hpa⟩:=(H.out.chg HC.out (by simp)).elem (by omega) hlt (YI Slt.len hy)
   obtain ⟨r1,r2⟩:=hpa 0 11 (by omega)
   have e11:((Slt.enc y).drop 0 |>.take 11).toArray=slc y:=by rw [List.drop_zero,List.take_of_length_le (by rw [Slt.len];exact Nat.le_refl _)];rfl
   rw [e11,Nat.add_zero] at r2
   rw [Nat.add_zero] at r1
   have g1:(k:Int)<(n:Int):=by omega
   have g0:(0:Int)≤(k:Int):=by omega
   have g2:(n:Int)≤100000:=by omega
   have HY:=Vh hy
   clear hy hce hpa e11
   by_cases hs:y.st=0
   ·have t1:(y.st==0)=true:=by simp [hs]
    have HP:=Vh (hit_at HY.out (show Qch y=true by simp [Qch,hs]) HNO.out)
    go_wp2
    go_ret
    exact ⟨by rw [HP.out];rfl,HC.out.alloc _⟩
   ·have t1:(y.st==0)=false:=by simp [hs]
    have HP:=Vh (take_all HY.out (show Qch y=false by simp [Qch,hs]) HNO.out)
    go_wp2
    go_roundw
    case rel=>exact ⟨k+1,by omega,by go_num,HC.out.alloc _,HP.out⟩
    case measure=>simp [intOf];omega
  ·obtain rfl:k=n:=by omega
   go_wp2
   go_ret
   exact ⟨by rw [Qed (by have:=HNO.out;rw [HN.out,List.take_length] at this;exact this)];rfl,HC.out⟩
theorem slt_elem {w wr:World} {l:List Nat} {n b o k:Nat} {ys:List Slt} {y:Slt} (h:Sl w 11 (some ⟨b,o,none⟩) n (cat Slt.enc ys)) (hc:Chg l w wr) (hb:b∉l) (hk:k<n) (hy:ys[k]? =some y):
 ∃c t f,wr.heap[b]? =some (.cells c t f)∧Qbo (some (.cells c t f)) (o+k*11) 11=true∧XF (some (.cells c t f)) (o+k*11) 11=slc y:=by
 obtain ⟨cs,t,f,hb,hce,hpa⟩:=(h.chg hc (by simpa using hb)).elem (by omega) hk (YI Slt.len hy)
 obtain ⟨r1,r2⟩:=hpa 0 11 (by omega)
 have e11:((Slt.enc y).drop 0 |>.take 11).toArray=slc y:=by rw [List.drop_zero,List.take_of_length_le (by rw [Slt.len];exact Nat.le_refl _)];rfl
 rw [e11,Nat.add_zero] at r2
 rw [Nat.add_zero] at r1
 exact ⟨cs,t,f,hb,r1,r2⟩
theorem eldest_ok (A:Option Addr) (n c:Nat) (ys:List Slt) (w:World) (h:Sl w 11 A n (cat Slt.enc ys)) (hn:n=ys.length) (hn8:n≤100000):
 Calls Tryz.prog 261 #[.slice A n c] w fun e w'=>e=.returned (.int .i64 (eld ys))∧Chg [] w w':=by
 have H:=Vh h
 have HN:=Vh hn
 clear h hn
 go_enter Tryz.func261,Tryz.ntmps261
 go_wp2
 go_loopw [9,3,4] (fun i s3 s4 wr=>∃(k:Nat) (p q:Int),k≤n∧i=.int .i64 k∧s3=.int .i64 p∧s4=.int .i64 q∧Chg [] w wr∧eldS (ys.take k)=(p,q)) (fun i _ _ _=>n-(intOf i).toNat)
 case atStart=>exact ⟨0, -1,0,by omega,rfl,rfl,rfl,Chg.refl _ _,rfl⟩
 case round=>
  obtain ⟨k,p,q,hk,rfl,rfl,rfl,hc,hno⟩:=hrel
  have HC:=Vh hc
  have HNO:=Vh hno
  clear hno hc
  by_cases hlt:k<n
  ·obtain ⟨b,o,rfl⟩:=H.out.addr (by omega)
   obtain ⟨y,hy⟩:∃y,ys[k]? =some y:=⟨ys[k]'Cz12,List.getElem?_eq_getElem _⟩
   obtain ⟨cs,t,f,hb,r1,r2⟩:=slt_elem H.out HC.out (by simp) hlt hy
   have g1:(k:Int)<(n:Int):=by omega
   have g0:(0:Int)≤(k:Int):=by omega
   have g2:(n:Int)≤100000:=by omega
   have HY:=Vh (show eldS (ys.take (k+1))=Qiq (p,q) y by rw [eldS_take hy,HNO.out])
   clear hy
   by_cases hr:(YO y.st&&(decide (p<0)||decide (y.us<q)))=true
   ·have HP:=Vh (show eldS (ys.take (k+1))=(y.li,y.us) by rw [HY.out];unfold Qiq;rw [if_pos hr])
    rw [Bool.and_eq_true] at hr
    obtain ⟨hr1,hr2⟩:=hr
    by_cases hp:p<0
    ·have t1:decide (p<0)=true:=by simpa using hp
     clear hr2
     go_wp2_with (go_at_call 269;refine (Qf5 _ _).mono ?_;rintro e w' ⟨rfl,rfl⟩)
     go_quiet (fail)
     go_wp2
     go_roundw
     case rel=>exact ⟨k+1,_,_,by omega,by go_num,rfl,rfl,(HC.out.alloc _).drewN _,HP.out⟩
     case measure=>simp [intOf];omega
    ·have t1:decide (p<0)=false:=by simpa using hp
     have t2:decide (y.us<q)=true:=by rw [t1] at hr2;simpa using hr2
     clear hr2
     go_wp2_with (go_at_call 269;refine (Qf5 _ _).mono ?_;rintro e w' ⟨rfl,rfl⟩)
     go_quiet (fail)
     go_wp2
     go_roundw
     case rel=>exact ⟨k+1,_,_,by omega,by go_num,rfl,rfl,(HC.out.alloc _).drewN _,HP.out⟩
     case measure=>simp [intOf];omega
   ·have HP:=Vh (show eldS (ys.take (k+1))=(p,q) by rw [HY.out];unfold Qiq;rw [if_neg hr])
    by_cases hr1:YO y.st=true
    ·rw [hr1,Bool.true_and] at hr
     have t1:decide (p<0)=false:=by simp at hr;simp;omega
     have t2:decide (y.us<q)=false:=by simp at hr;simp;omega
     clear hr
     go_wp2_with (go_at_call 269;refine (Qf5 _ _).mono ?_;rintro e w' ⟨rfl,rfl⟩)
     go_roundw
     case rel=>exact ⟨k+1,_,_,by omega,by go_num,rfl,rfl,HC.out.alloc _,HP.out⟩
     case measure=>simp [intOf];omega
    ·have hr1:YO y.st=false:=by simpa using hr1
     clear hr
     go_wp2_with (go_at_call 269;refine (Qf5 _ _).mono ?_;rintro e w' ⟨rfl,rfl⟩)
     go_roundw
     case rel=>exact ⟨k+1,_,_,by omega,by go_num,rfl,rfl,HC.out.alloc _,HP.out⟩
     case measure=>simp [intOf];omega
  ·obtain rfl:k=n:=by omega
   go_wp2
   go_ret
   exact ⟨by have:=HNO.out;rw [HN.out,List.take_length] at this;unfold eld;rw [this];rfl,HC.out⟩
def Arr (w:World) (a b S W:Nat) (xs:List Slt) (u:Int):Prop:=
 w.heap[a]? =some (.cells #[.int .i64 S,.int .i64 W,.slice (some ⟨b,0,none⟩) xs.length xs.length,.int .i64 u] 232 (0,0))∧w.heap[b]? =some (.cells (sq Slt.enc xs []) 147 (0,0))∧a≠b∧Good S W xs
theorem Arr.keep {w w':World} {a b S W:Nat} {xs:List Slt} {u:Int} {l:List Nat} (h:Arr w a b S W xs u) (hc:Chg l w w') (ha:a∉l) (hb:b∉l):Arr w' a b S W xs u:=
 ⟨hc.keep h.1 ha,hc.keep h.2.1 hb,h.2.2⟩
theorem Arr.olda {w:World} {a b S W:Nat} {xs:List Slt} {u:Int} (h:Arr w a b S W xs u):a<w.heap.size:=Z6 h.1
theorem Arr.oldb {w:World} {a b S W:Nat} {xs:List Slt} {u:Int} (h:Arr w a b S W xs u):b<w.heap.size:=Z6 h.2.1
theorem Arr.sl {w:World} {a b S W:Nat} {xs:List Slt} {u:Int} (h:Arr w a b S W xs u) (li:Int):Sl w 11 (some ⟨b,XN S li*W*11,none⟩) W (cat Slt.enc (seg W xs (XN S li))):=by
 have hg:=h.2.2.2
 have hf:=hg.fit li
 refine ⟨by rw [Q9 Slt.len,hg.seg_len],.inr ⟨b,_,_,_,_,rfl,h.2.1,?_⟩⟩
 rw [YF,List.append_nil,Qf1 Slt.len,Qf0 Slt.len];rfl
theorem aset_nil (li:Int) (w:World):Calls Tryz.prog 213 #[.pointer none,.int .i64 li] w fun e w'=>e=.returned (.slice none 0 0)∧w=w':=by
 go_enter Tryz.func213,Tryz.ntmps213
 go_wp2
 go_ret
 exact ⟨rfl,rfl⟩
theorem aset_neg (a:Addr) (li:Int) (w:World) (h:li<0):Calls Tryz.prog 213 #[.pointer (some a),.int .i64 li] w fun e w'=>e=.returned (.slice none 0 0)∧w=w':=by
 have t1:decide (li<0)=true:=by simpa using h
 go_enter Tryz.func213,Tryz.ntmps213
 go_wp2
 go_ret
 exact ⟨rfl,rfl⟩
theorem Qdd (a b S W:Nat) (xs:List Slt) (u li:Int) (w:World) (h:Arr w a b S W xs u) (h0:0≤li):
 Calls Tryz.prog 213 #[.pointer (some ⟨a,0,none⟩),.int .i64 li] w fun e w'=>e=.returned (.slice (some ⟨b,XN S li*W*11,none⟩) W W)∧Chg [] w w':=by
 obtain ⟨ha,hb,hab,hg⟩:=h
 have t1:decide (li<0)=false:=by simp;omega
 have oa:=old ha
 have hf:=hg.fit li
 have hl:=hg.len
 have h64:=hg.len64
 have hw8:=hg.way8
 have hw1:=hg.way1
 obtain ⟨f,hfe⟩:∃f,XN S li*W=f:=⟨_,rfl⟩
 have hfe':(XN S li:Int)*(W:Int)=(f:Int):=by rw [←hfe,Int.natCast_mul]
 have HS:=Vh hg.sets
 rw [hfe] at hf ⊢
 rw [←hl] at hf
 obtain ⟨N,hN⟩:∃N,xs.length=N:=⟨_,rfl⟩
 rw [hN] at hf h64 ha
 have g1:(f:Int)+(W:Int)≤(N:Int):=by omega
 have g2:(N:Int)≤64:=by omega
 have g3:(1:Int)≤(W:Int):=by omega
 have g4:(0:Int)≤(f:Int):=by omega
 clear hfe hl hN hg
 go_enter Tryz.func213,Tryz.ntmps213
 go_wp2
 go_quiet (first |(go_at_call 234;exact quiet_same (geomSet_ok S li _ HS.out h0)))
 go_wp2
 go_ret
 exact ⟨by rw [Nat.add_sub_cancel_left];rfl,(Chg.refl _ _).drewN _⟩
end
section
set_option maxHeartbeats 1000000
attribute [local go_sem ↓] Qv QF Qx QP QG Qs Zg Q7 ZH Zt Qk Qh heap_alloc Ql heap_setCell Qc XG XP XO
attribute [local go_sem] Qb Qa Qe Qi Qd Qg Qf Qt Zk Zf ZE QB Qw QN QL QM Q6 QJ QA Qr QD QX QI Qq QC Qp Qj Qo Qn Qm Zj Zv lit8 QV Xc ZG ZL Zn
attribute [local simp ↓] Qk Qh heap_alloc Ql heap_setCell Qc
attribute [local simp] Qb Qa Qe Qi Qd Qg Qf Qt Qr Qj Qo Qn Qm QV
theorem Qc2 {fn:Func} {p t:Tmp} (h:fn.results=#[.cell p 147,.tmp t]) (tmps:Array Value) (w:World) (b:Nat) (s:Slt) (fr:Nat×Nat)
 (hp:tmps.getD p undef=.pointer (some ⟨b,0,none⟩)) (hb:w.heap[b]? =some (.cells (slc s) 147 fr)) (x:Value) (hx:tmps.getD t undef=x):
 (results fn tmps).run Tryz.prog w=.ok (.tuple #[.agg (slc s),x]) w:=by
 subst hx
 have hp':tmps[p]?.getD undef=.pointer (some ⟨b,0,none⟩):=by simpa using hp
 have:=run_loadVar_row (P:=Tryz.prog) w b 147 147 (slc s) fr _ hb Tryz.underlying147 rfl (by rw [QV];kernel_rfl)
 simp [results,h,hp',asAddr,this]
theorem sl_nil (w:World) (c:Nat):Sl w 11 none 0 (cat Slt.enc []):=⟨rfl,.inl rfl⟩
theorem Qi2 (a b S W:Nat) (xs:List Slt) (u li:Int) (w:World) (h:Arr w a b S W xs u) (hn:∀x∈xs,X9 li x=false):
 Calls Tryz.prog 213 #[.pointer (some ⟨a,0,none⟩),.int .i64 li] w fun e w'=>∃(A:Option Addr) (n:Nat) (ys:List Slt),e=.returned (.slice A n n)∧Sl w' 11 A n (cat Slt.enc ys)∧n=ys.length∧n≤100000∧hit (X9 li) ys= -1∧Chg [] w w':=by
 by_cases h0:0≤li
 ·refine (Qdd a b S W xs u li w h h0).mono ?_
  rintro e w' ⟨rfl,c⟩
  refine ⟨_,_,_,rfl,(h.keep c (by simp) (by simp)).sl li,(h.2.2.2.seg_len li).symm,by have:=h.2.2.2.way8;omega,Qed ?_,c⟩
  intro x hx
  exact hn x (List.mem_of_mem_drop (List.mem_of_mem_take hx))
 ·refine (aset_neg ⟨a,0,none⟩ li w (by omega)).mono ?_
  rintro e w' ⟨rfl,rfl⟩
  exact ⟨none,0,[],rfl,sl_nil _ 0,rfl,by omega,rfl,Chg.refl _ _⟩
theorem afind_nil (li:Int) (w:World):Calls Tryz.prog 163 #[.pointer none,.int .i64 li] w fun e w'=>e=.returned (.tuple #[.agg (slc sltZ),.bool false])∧Chg [] w w':=by
 go_enter Tryz.func163,Tryz.ntmps163
 go_wp2_with fail
 rw [←slcZ]
 have hz:(w.alloc (.cells (slc sltZ) 147)).heap[w.heap.size]? =some (.cells (slc sltZ) 147 (0,0)):=by simp
 have C0:=Vh ((Chg.refl [] w).alloc (.cells (slc sltZ) 147))
 generalize w.alloc (.cells (slc sltZ) 147)=w1 at hz C0 ⊢
 refine (aset_nil li w1).mono ?_
 rintro e w2 ⟨rfl,rfl⟩
 go_wp2_with fail
 refine (Qbc none 0 0 li [] w1 (sl_nil _ 0) rfl (by omega)).mono ?_
 rintro e w2 ⟨rfl,c2⟩
 have hz2:=c2.keep hz (by simp)
 have oz:=old hz2
 have HC:=Vh (C0.out.trans c2)
 clear hz c2
 rw [Qed (by simp)]
 go_wp2_with fail
 refine bodyPost_ret (v:=.tuple #[.agg (slc sltZ),.bool false]) ?_ (by rfl) ?_
 ·exact Qc2 (by rfl) _ _ w.heap.size sltZ (0,0) (by rfl) (by simp [*,slcZ]) _ (by rfl)
 ·exact ⟨rfl,HC.out.putRow _ _ _ (.inr (Nat.le_refl _))⟩
theorem afind_any (a b S W:Nat) (xs:List Slt) (u li:Int) (w:World) (h:Arr w a b S W xs u):
 Calls Tryz.prog 163 #[.pointer (some ⟨a,0,none⟩),.int .i64 li] w fun e w'=>e=.returned (.tuple #[.agg (slc (Qy xs li)),.bool (XM xs li)])∧Chg [] w w':=by
 have H:=Vh h
 rcases h.2.2.2.where li with ⟨k,y,e1,e2,hk,hy,hst,hli,h0,e3,e4,e5⟩|⟨e1,e2,e3,e4⟩
 ·rw [show Qy xs li=y by unfold Qy;rw [e2,hy],show XM xs li=true by unfold XM;rw [e2];simpa using e5]
  have HH:=Vh e3
  have hys:(seg W xs (XN S li))[k]? =some y:=by rw [Qh6 _ _ _ hk];exact hy
  have HL:=Vh (h.2.2.2.seg_len li)
  have HY:=Vh hys
  have hw8:=h.2.2.2.way8
  clear h e1 e2 e3 e4 e5 hst hli hy hys
  go_enter Tryz.func163,Tryz.ntmps163
  go_wp2_with fail
  rw [←slcZ]
  have hz:(w.alloc (.cells (slc sltZ) 147)).heap[w.heap.size]? =some (.cells (slc sltZ) 147 (0,0)):=by simp
  have C0:=Vh ((Chg.refl [] w).alloc (.cells (slc sltZ) 147))
  generalize w.alloc (.cells (slc sltZ) 147)=w1 at hz C0 ⊢
  refine (Qdd a b S W xs u li w1 (H.out.keep C0.out (by simp) (by simp)) h0).mono ?_
  rintro e w2 ⟨rfl,c2⟩
  have hz2:=c2.keep hz (by simp)
  have C2:=Vh (C0.out.trans c2)
  clear hz c2
  go_wp2_with fail
  refine (Qbc _ W W li _ w2 ((H.out.keep C2.out (by simp) (by simp)).sl li) HL.out.symm (by omega)).mono ?_
  rintro e w3 ⟨rfl,c3⟩
  rw [HH.out]
  have hz3:=c3.keep hz2 (by simp)
  have oz:=old hz3
  have C3:=Vh (C2.out.trans c3)
  obtain ⟨cs,t,f,hb,r1,r2⟩:=slt_elem (H.out.sl li) C3.out (by simp) hk HY.out
  have g1:(k:Int)<(W:Int):=by omega
  have g0:(0:Int)≤(k:Int):=by omega
  have g2:(W:Int)≤8:=by omega
  have t1:decide ((k:Int)<0)=false:=by simp
  clear hz2 c3
  go_wp2_with fail
  refine bodyPost_ret (v:=.tuple #[.agg (slc y),.bool true]) ?_ (by rfl) ?_
  ·exact Qc2 (by rfl) _ _ w.heap.size y (0,0) (by rfl) (by simp [*]) _ (by rfl)
  ·exact ⟨rfl,C3.out.putRow _ _ _ (.inr (Nat.le_refl _))⟩
 ·rw [show Qy xs li=sltZ by unfold Qy;rw [e3,List.getElem?_eq_none (Nat.le_refl _)],show XM xs li=false by unfold XM;rw [e3];simp]
  have HN:=Vh e4
  clear h e1 e2 e3 e4
  go_enter Tryz.func163,Tryz.ntmps163
  go_wp2_with fail
  rw [←slcZ]
  have hz:(w.alloc (.cells (slc sltZ) 147)).heap[w.heap.size]? =some (.cells (slc sltZ) 147 (0,0)):=by simp
  have C0:=Vh ((Chg.refl [] w).alloc (.cells (slc sltZ) 147))
  generalize w.alloc (.cells (slc sltZ) 147)=w1 at hz C0 ⊢
  refine (Qi2 a b S W xs u li w1 (H.out.keep C0.out (by simp) (by simp)) HN.out).mono ?_
  rintro e w2 ⟨A,n,ys,rfl,s2,hn,hn1,hh,c2⟩
  have hz2:=c2.keep hz (by simp)
  have C2:=Vh (C0.out.trans c2)
  have S2:=Vh s2
  have HH:=Vh hh
  have HN1:=Vh hn
  clear hz c2 s2 hh hn
  go_wp2_with fail
  refine (Qbc A n n li ys w2 S2.out HN1.out hn1).mono ?_
  rintro e w3 ⟨rfl,c3⟩
  rw [HH.out]
  have hz3:=c3.keep hz2 (by simp)
  have oz:=old hz3
  have C3:=Vh (C2.out.trans c3)
  clear hz2 c3
  go_wp2_with fail
  refine bodyPost_ret (v:=.tuple #[.agg (slc sltZ),.bool false]) ?_ (by rfl) ?_
  ·exact Qc2 (by rfl) _ _ w.heap.size sltZ (0,0) (by rfl) (by simp [*,slcZ]) _ (by rfl)
  ·exact ⟨rfl,C3.out.putRow _ _ _ (.inr (Nat.le_refl _))⟩
theorem aroom_any (a b S W:Nat) (xs:List Slt) (u li:Int) (w:World) (h:Arr w a b S W xs u):
 Calls Tryz.prog 248 #[.pointer (some ⟨a,0,none⟩),.int .i64 li] w fun e w'=>e=.returned (.tuple #[.bool (Jx S W xs li),.int .i64 (Qau S W xs li)])∧Chg [] w w':=by
 have H:=Vh h
 by_cases h0:0≤li
 ·have HL:=Vh (h.2.2.2.seg_len li)
  have hw8:=h.2.2.2.way8
  rcases h.2.2.2.room li with ⟨k,y,e1,hk,hy,hst,e3,e4,_⟩|⟨e1,e2,e3⟩
  ·rw [show Jx S W xs li=true by unfold Jx;rw [e1];simp [h0,hk],show Qau S W xs li= -1 by unfold Qau;rw [e1,if_pos hk,if_neg (by omega)]]
   have HH:=Vh e3
   have t1:decide ((0:Int)≤(k:Int))=true:=by simp
   clear h e1 hy hst e3 e4
   go_enter Tryz.func248,Tryz.ntmps248
   go_wp2_with fail
   refine (Qdd a b S W xs u li w H.out h0).mono ?_
   rintro e w2 ⟨rfl,c2⟩
   have C2:=Vh c2
   clear c2
   go_wp2_with fail
   refine (Qb3 _ W W _ w2 ((H.out.keep C2.out (by simp) (by simp)).sl li) HL.out.symm (by omega)).mono ?_
   rintro e w3 ⟨rfl,c3⟩
   rw [HH.out]
   go_wp2_with fail
   go_ret2
   exact ⟨rfl,C2.out.trans c3⟩
  ·rw [show Jx S W xs li=false by unfold Jx;rw [e2];simp,show Qau S W xs li=eld (seg W xs (XN S li)) by unfold Qau;rw [e2,if_neg (by omega),if_neg (by omega)]]
   have HH:=Vh e1
   clear h e1 e2 e3
   go_enter Tryz.func248,Tryz.ntmps248
   go_wp2_with fail
   refine (Qdd a b S W xs u li w H.out h0).mono ?_
   rintro e w2 ⟨rfl,c2⟩
   have C2:=Vh c2
   clear c2
   go_wp2_with fail
   refine (Qb3 _ W W _ w2 ((H.out.keep C2.out (by simp) (by simp)).sl li) HL.out.symm (by omega)).mono ?_
   rintro e w3 ⟨rfl,c3⟩
   rw [HH.out]
   have C3:=Vh (C2.out.trans c3)
   clear c3
   go_wp2_with fail
   refine (eldest_ok _ W W _ w3 ((H.out.keep C3.out (by simp) (by simp)).sl li) HL.out.symm (by omega)).mono ?_
   rintro e w4 ⟨rfl,c4⟩
   go_wp2_with fail
   go_ret2
   exact ⟨rfl,C3.out.trans c4⟩
 ·rw [show Jx S W xs li=false by unfold Jx;simp;omega,show Qau S W xs li= -1 by unfold Qau;rw [if_pos (by omega)]]
  clear h
  go_enter Tryz.func248,Tryz.ntmps248
  go_wp2_with fail
  refine (aset_neg ⟨a,0,none⟩ li w (by omega)).mono ?_
  rintro e w2 ⟨rfl,rfl⟩
  go_wp2_with fail
  refine (Qb3 none 0 0 [] w (sl_nil _ 0) rfl (by omega)).mono ?_
  rintro e w2 ⟨rfl,c2⟩
  rw [Qed (by simp)]
  have C2:=Vh c2
  clear c2
  go_wp2_with fail
  refine (eldest_ok none 0 0 [] w2 (sl_nil _ 0) rfl (by omega)).mono ?_
  rintro e w3 ⟨rfl,c3⟩
  go_wp2_with fail
  go_ret2
  exact ⟨rfl,C2.out.trans c3⟩
end
section
set_option maxHeartbeats 1000000
attribute [local go_sem ↓] Qv QF Qx QP QG Qs Zg Q7 ZH Zt Qk Qh heap_alloc Ql heap_setCell Qc XG XP XO
attribute [local go_sem] Qb Qa Qe Qi Qd Qg Qf Qt Zk Zf ZE QB Qw QN QL QM Q6 QJ QA Qr QD QX QI Qq QC Qp Qj Qo Qn Qm Zj Zv lit8 QV Xc ZG ZL Zn
attribute [local simp ↓] Qk Qh heap_alloc Ql heap_setCell Qc
attribute [local simp] Qb Qa Qe Qi Qd Qg Qf Qt Qr Qj Qo Qn Qm QV
def ArrTo (w:World) (a b S W:Nat) (xs:List Slt) (u:Int) (v:Value) (e:Ending) (w':World):Prop:=e=.returned v∧Chg [a,b] w w'∧Arr w' a b S W xs u
theorem ArrTo.same {w w':World} {a b S W:Nat} {xs:List Slt} {u:Int} (h:Arr w a b S W xs u) (hc:Chg [] w w') (v:Value):ArrTo w a b S W xs u v (.returned v) w':=
 ⟨rfl,hc.mono (by simp),h.keep hc (by simp) (by simp)⟩
theorem Arr.putSlot {w:World} {a b S W:Nat} {xs:List Slt} {u:Int} (h:Arr w a b S W xs u) {k:Nat} {x:Slt} (hx:xs[k]? =some x) (y:Slt) (hg:Good S W (xs.set k y)):Arr (putRow w b (k*11) (slc y)) a b S W (xs.set k y) u:=by
 have hr:ZX (w.heap[b]?) (k*11) (slc y).size=true:=by rw [h.2.1,QV];exact slt_has hx [] _
 refine ⟨?_,?_,h.2.2.1,hg⟩
 ·rw [Qc _ _ _ _ _ hr,if_neg h.2.2.1,List.length_set];exact h.1
 ·rw [Qc _ _ _ _ _ hr,if_pos rfl,h.2.1];exact Qh0 hx [] _ _ y
theorem Arr.putUse {w:World} {a b S W:Nat} {xs:List Slt} {u:Int} (h:Arr w a b S W xs u) {k:Nat} {x:Slt} (hx:xs[k]? =some x) (n:Int) (hg:Good S W (xs.set k (x.use n))):Arr (w.setCell ⟨b,k*11+10,none⟩ (.int .i64 n)) a b S W (xs.set k (x.use n)) u:=by
 refine ⟨?_,?_,h.2.2.1,hg⟩
 ·rw [heap_setCell,if_neg h.2.2.1,List.length_set];exact h.1
 ·rw [heap_setCell,if_pos rfl,h.2.1,Qf,slt_use hx]
theorem adrop_any (a b S W:Nat) (xs:List Slt) (u li:Int) (w:World) (h:Arr w a b S W xs u):
 Calls Tryz.prog 164 #[.pointer (some ⟨a,0,none⟩),.int .i64 li] w (ArrTo w a b S W (dropXs xs li) u (.bool (XM xs li))):=by
 have H:=Vh h
 have HG:=Vh (h.2.2.2.dropXs li)
 rcases h.2.2.2.where li with ⟨k,y,e1,e2,hk,hy,hst,hli,h0,e3,e4,e5⟩|⟨e1,e2,e3,e4⟩
 ·unfold dropXs XM at *
  rw [e2] at HG ⊢
  rw [show decide (XN S li*W+k<xs.length)=true by simpa using e5]
  have HH:=Vh e3
  have HL:=Vh (h.2.2.2.seg_len li)
  have HY:=Vh hy
  have hw8:=h.2.2.2.way8
  obtain ⟨f,hf⟩:∃f,XN S li*W=f:=⟨_,rfl⟩
  have HF:=Vh hf
  rw [hf] at hy ⊢ HG
  have rh:=slt_has hy [] 147
  have rp:=Qh0 hy [] 147 (0,0) sltZ
  have hb:=h.2.1
  clear h e1 e2 e3 e4 e5 hst hli hy hf
  go_enter Tryz.func164,Tryz.ntmps164
  go_wp2_with fail
  refine (Qdd a b S W xs u li w H.out h0).mono ?_
  rintro e w2 ⟨rfl,c2⟩
  have C2:=Vh c2
  clear c2
  go_wp2_with fail
  refine (Qbc _ W W li _ w2 ((H.out.keep C2.out (by simp) (by simp)).sl li) HL.out.symm (by omega)).mono ?_
  rintro e w3 ⟨rfl,c3⟩
  rw [HH.out,HF.out]
  have C3:=Vh (C2.out.trans c3)
  have hb3:=C3.out.keep hb (by simp)
  have ob3:=old hb3
  have g1:(k:Int)<(W:Int):=by omega
  have g0:(0:Int)≤(k:Int):=by omega
  have g2:(W:Int)≤8:=by omega
  have t1:decide ((k:Int)<0)=false:=by simp
  rw [Nat.add_mul] at rh rp
  clear c3 hb
  go_wp2_with fail
  go_ret
  refine ⟨rfl,?_,?_⟩
  ·exact ((C3.out.mono (l':=[a,b]) (by simp)).putRow _ _ _ (.inl (by simp)))
  ·have:=(H.out.keep C3.out (by simp) (by simp)).putSlot (k:=f+k) (by rw [←HF.out];exact HY.out) sltZ HG.out
   rw [Nat.add_mul] at this
   exact this
 ·rw [show dropXs xs li=xs by unfold dropXs;rw [e3,Qhg],show XM xs li=false by unfold XM;rw [e3];simp]
  have HN:=Vh e4
  clear h e1 e2 e3 e4 HG
  go_enter Tryz.func164,Tryz.ntmps164
  go_wp2_with fail
  refine (Qi2 a b S W xs u li w H.out HN.out).mono ?_
  rintro e w2 ⟨A,n,ys,rfl,s2,hn,hn1,hh,c2⟩
  have C2:=Vh c2
  have S2:=Vh s2
  have HH:=Vh hh
  have HN1:=Vh hn
  clear c2 s2 hh hn
  go_wp2_with fail
  refine (Qbc A n n li ys w2 S2.out HN1.out hn1).mono ?_
  rintro e w3 ⟨rfl,c3⟩
  rw [HH.out]
  have C3:=Vh (C2.out.trans c3)
  clear c3
  go_wp2_with fail
  go_ret
  exact ArrTo.same H.out C3.out _
theorem Arr.next {w:World} {a b S W:Nat} {xs:List Slt} {u:Int} (h:Arr w a b S W xs u) (n:Int):Arr (w.setCell ⟨a,3,none⟩ (.int .i64 n)) a b S W xs n:=by
 refine ⟨?_,?_,h.2.2⟩
 ·rw [heap_setCell,if_pos rfl,h.1,Qf];rfl
 ·rw [heap_setCell,if_neg (Ne.symm h.2.2.1)];exact h.2.1
theorem next_ok (a b S W:Nat) (xs:List Slt) (u:Int) (w:World) (h:Arr w a b S W xs u) (h0:0≤u) (h1:u≤1000000000):
 Calls Tryz.prog 216 #[.pointer (some ⟨a,0,none⟩)] w fun e w'=>e=.returned (.int .i64 (u+1))∧w'=w.setCell ⟨a,3,none⟩ (.int .i64 (u+1)):=by
 have ha:=h.1
 have oa:=old ha
 have g1:u+1≤9223372036854775807:=by omega
 have g0: -9223372036854775808≤u+1:=by omega
 clear h
 go_enter Tryz.func216,Tryz.ntmps216
 go_wp2
 go_ret
 exact ⟨rfl,rfl⟩
theorem atouch_any (a b S W:Nat) (xs:List Slt) (u li:Int) (w:World) (h:Arr w a b S W xs u) (u0:0≤u) (u1:u≤1000000000):
 Calls Tryz.prog 241 #[.pointer (some ⟨a,0,none⟩),.int .i64 li] w (ArrTo w a b S W (touchXs xs u li) (Qdk xs u li) (.tuple #[])):=by
 have H:=Vh h
 have HG:=Vh (h.2.2.2.touchXs u li)
 rcases h.2.2.2.where li with ⟨k,y,e1,e2,hk,hy,hst,hli,h0,e3,e4,e5⟩|⟨e1,e2,e3,e4⟩
 ·unfold touchXs Qdk at *
  rw [e2,hy] at HG ⊢
  rw [if_pos e5]
  have HH:=Vh e3
  have HL:=Vh (h.2.2.2.seg_len li)
  have HY:=Vh hy
  have hw8:=h.2.2.2.way8
  obtain ⟨f,hf⟩:∃f,XN S li*W=f:=⟨_,rfl⟩
  have HF:=Vh hf
  rw [hf] at hy HG ⊢
  have hce:=slt_us hy []
  have hb:=h.2.1
  have HAB:=Vh h.2.2.1
  clear h e1 e2 e3 e4 e5 hst hli hy hf
  go_enter Tryz.func241,Tryz.ntmps241
  go_wp2_with fail
  refine (Qdd a b S W xs u li w H.out h0).mono ?_
  rintro e w2 ⟨rfl,c2⟩
  have C2:=Vh c2
  clear c2
  go_wp2_with fail
  refine (Qbc _ W W li _ w2 ((H.out.keep C2.out (by simp) (by simp)).sl li) HL.out.symm (by omega)).mono ?_
  rintro e w3 ⟨rfl,c3⟩
  rw [HH.out,HF.out]
  have C3:=Vh (C2.out.trans c3)
  have g1:(k:Int)<(W:Int):=by omega
  have g0:(0:Int)≤(k:Int):=by omega
  have g2:(W:Int)≤8:=by omega
  have t1:decide ((0:Int)≤(k:Int))=true:=by simp
  have A3:=Vh (H.out.keep C3.out (by simp) (by simp))
  clear c3 hb
  go_wp2_with fail
  refine (next_ok a b S W xs u w3 A3.out u0 u1).mono ?_
  rintro e w4 ⟨rfl,rfl⟩
  have A4:=Vh (A3.out.next (u+1))
  have C4:=Vh ((C3.out.mono (l':=[a,b]) (by simp)).setCell a 3 (.int .i64 (u+1)) (.inl (by simp)))
  have hb4:=A4.out.2.1
  generalize w3.setCell ⟨a,3,none⟩ (.int .i64 (u+1))=w4 at A4 C4 hb4 ⊢
  have ob4:=old hb4
  rw [Nat.add_mul] at hce
  go_wp2_with fail
  go_end0
  refine ⟨rfl,C4.out.setCell _ _ _ (.inl (by simp)),?_⟩
  have:=A4.out.putUse (k:=f+k) (by rw [←HF.out];exact HY.out) (u+1) HG.out
  rw [Nat.add_mul] at this
  exact this
 ·rw [show touchXs xs u li=xs by unfold touchXs;rw [e3,List.getElem?_eq_none (Nat.le_refl _)],show Qdk xs u li=u by unfold Qdk;rw [e3,if_neg (by omega)]]
  have HN:=Vh e4
  clear h e1 e2 e3 e4 HG
  go_enter Tryz.func241,Tryz.ntmps241
  go_wp2_with fail
  refine (Qi2 a b S W xs u li w H.out HN.out).mono ?_
  rintro e w2 ⟨A,n,ys,rfl,s2,hn,hn1,hh,c2⟩
  have C2:=Vh c2
  have S2:=Vh s2
  have HH:=Vh hh
  have HN1:=Vh hn
  clear c2 s2 hh hn
  go_wp2_with fail
  refine (Qbc A n n li ys w2 S2.out HN1.out hn1).mono ?_
  rintro e w3 ⟨rfl,c3⟩
  rw [HH.out]
  have C3:=Vh (C2.out.trans c3)
  clear c3
  go_wp2_with fail
  go_end0
  exact ArrTo.same H.out C3.out _
theorem asetl_bad (a:Addr) (li st:Int) (l:List Int) (w:World) (h:Qbn li st):Calls Tryz.prog 165 #[.pointer (some a),.int .i64 li,.int .i64 st,.agg (vs l)] w fun e w'=>e=.returned (.int .i64 1)∧Chg [] w w':=by
 by_cases h1:li<0
 ·have t1:decide (li<0)=true:=by simpa using h1
  clear h
  go_enter Tryz.func165,Tryz.ntmps165
  go_wp2
  go_ret
  exact ⟨rfl,(Chg.refl _ _).alloc _⟩
 ·have t1:decide (li<0)=false:=by simpa using h1
  by_cases h2:st<1
  ·have t2:decide (st<1)=true:=by simpa using h2
   clear h
   go_enter Tryz.func165,Tryz.ntmps165
   go_wp2
   go_ret
   exact ⟨rfl,(Chg.refl _ _).alloc _⟩
  ·have t2:decide (st<1)=false:=by simpa using h2
   have t3:decide (9<st)=true:=by unfold Qbn at h;simp;omega
   clear h
   go_enter Tryz.func165,Tryz.ntmps165
   go_wp2
   go_ret
   exact ⟨rfl,(Chg.refl _ _).alloc _⟩
theorem next_chg (a b S W:Nat) (xs:List Slt) (u:Int) (w:World) (h:Arr w a b S W xs u) (h0:0≤u) (h1:u≤1000000000):
 Calls Tryz.prog 216 #[.pointer (some ⟨a,0,none⟩)] w fun e w'=>e=.returned (.int .i64 (u+1))∧Chg [a] w w'∧Arr w' a b S W xs (u+1):=
 (next_ok a b S W xs u w h h0 h1).mono fun e w' ⟨he,hw⟩=>⟨he,by rw [hw];exact (Chg.refl _ _).setCell _ _ _ (.inl (by simp)),by rw [hw];exact h.next _⟩
theorem asetl_any (a b S W:Nat) (xs:List Slt) (u li st:Int) (l:List Int) (hl8:l.length=8) (w:World) (h:Arr w a b S W xs u) (u0:0≤u) (u1:u≤1000000000):
 Calls Tryz.prog 165 #[.pointer (some ⟨a,0,none⟩),.int .i64 li,.int .i64 st,.agg (vs l)] w (ArrTo w a b S W (setXs S W xs u li st l hl8) (setU S W xs u li st) (.int .i64 (setVal S W xs li st))):=by
 have H:=Vh h
 have HG:=Vh (h.2.2.2.setXs u li st l hl8)
 unfold setXs setU setVal at *
 by_cases hbad:Qbn li st
 ·rw [if_pos hbad,if_pos hbad,if_pos hbad]
  exact (asetl_bad ⟨a,0,none⟩ li st l w hbad).mono fun e w' ⟨he,hc⟩=>by rw [he];exact ArrTo.same h hc _
 rw [if_neg hbad] at HG ⊢
 rw [if_neg hbad,if_neg hbad]
 have h0:0≤li:=by unfold Qbn at hbad;omega
 have b1:decide (li<0)=false:=by simp;omega
 have b2:decide (st<1)=false:=by unfold Qbn at hbad;simp;omega
 have b3:decide (9<st)=false:=by unfold Qbn at hbad;simp;omega
 have HL:=Vh (h.2.2.2.seg_len li)
 have hw8:=h.2.2.2.way8
 have HAB:=Vh (show b∉[a] by have:=h.2.2.1;simp;omega)
 clear hbad
 rcases h.2.2.2.where li with ⟨k,y,e1,e2,hk,hy,hst,hli,_,e3,e4,e5⟩|⟨e1,e2,e3,e4⟩
 ·have ep:Qc5 S W xs li=XN S li*W+k:=by unfold Qc5;rw [e2,if_pos e5]
  rw [ep] at HG ⊢
  rw [if_pos e5,if_pos e5]
  have HH:=Vh e3
  obtain ⟨f,hf⟩:∃f,XN S li*W=f:=⟨_,rfl⟩
  have HF:=Vh hf
  rw [hf] at hy HG ⊢
  have HY:=Vh hy
  clear h e1 e2 e3 e4 e5 hst hli hf ep
  go_enter Tryz.func165,Tryz.ntmps165
  go_wp2_with fail
  have hz:(w.alloc (.cells (vs l) 59)).heap[w.heap.size]? =some (.cells (vs l) 59 (0,0)):=by simp
  have C0:=Vh ((Chg.refl [] w).alloc (.cells (vs l) 59))
  generalize w.alloc (.cells (vs l) 59)=w1 at hz C0 ⊢
  refine (Qdd a b S W xs u li w1 (H.out.keep C0.out (by simp) (by simp)) h0).mono ?_
  rintro e w2 ⟨rfl,c2⟩
  have hz2:=c2.keep hz (by simp)
  have C2:=Vh (C0.out.trans c2)
  clear hz c2
  go_wp2_with fail
  refine (Qbc _ W W li _ w2 ((H.out.keep C2.out (by simp) (by simp)).sl li) HL.out.symm (by omega)).mono ?_
  rintro e w3 ⟨rfl,c3⟩
  rw [HH.out]
  have C3:=Vh (C2.out.trans c3)
  have hz3:=c3.keep hz2 (by simp)
  clear c3 hz2
  rw [HF.out]
  have g1:(k:Int)<(W:Int):=by omega
  have g0:(0:Int)≤(k:Int):=by omega
  have g2:(W:Int)≤8:=by omega
  have t1:decide ((k:Int)<0)=false:=by simp
  have A3:=Vh (H.out.keep C3.out (by simp) (by simp))
  have oz3:=old hz3
  have HNZ:=Vh (show w.heap.size∉[a] by have:=H.out.olda;simp;omega)
  have HNZ2:=Vh (show w.heap.size∉[a,b] by have:=H.out.olda;have:=H.out.oldb;simp;omega)
  have HNB:=Vh (show (w.heap.size=b)=False by have:=H.out.oldb;simp;omega)
  have hnb:=HNB.out
  have rh:=slt_has hy [] 147
  have rp:=Qh0 hy [] 147 (0,0) ⟨st,li,l,u+1,hl8⟩
  rw [Nat.add_mul] at rh rp
  go_wp2_with fail
  go_region_held3 (fun w'=>w'.heap[w.heap.size]? =some (.cells (vs l) 59 (0,0))) (first |exact hz3|exact c4.keep hz3 HNZ.out|exact ((c4.mono (l':=[a,b]) (by simp)).putRow b _ _ (.inl (by simp))).keep hz3 HNZ2.out)
   (first |(go_at_call 216;refine (next_chg a b S W xs u _ (A3.out.keep ((Chg.refl [] w3).drew) (by simp) (by simp)) u0 u1).mono ?_;rintro e w' ⟨rfl,c4,a4⟩;have hb4:=a4.2.1;have ob4:=old hb4))
  all_goals
   have A4:=Vh a4
   have C4:=Vh c4
   clear a4 c4
   go_wp2_with fail
   go_ret
   refine ⟨rfl,?_,?_⟩
   ·exact ((((C3.out.mono (l':=[a,b]) (by simp)).drew).trans (C4.out.mono (l':=[a,b]) (by simp))).putRow _ _ _ (.inl (by simp)))
   ·have:=A4.out.putSlot (k:=f+k) (by rw [←HF.out];exact (show xs[XN S li*W+k]? =some y by rw [HF.out];exact HY.out)) ⟨st,li,l,u+1,hl8⟩ HG.out
    rw [Nat.add_mul] at this
    exact this
 ·rcases h.2.2.2.room li with ⟨k,y,d1,hk,hy,hst,d3,d4,_⟩|⟨d1,d2,d3⟩
  ·have ep:Qc5 S W xs li=XN S li*W+k:=by unfold Qc5;rw [e3,d1,if_neg (by omega),if_pos hk]
   rw [ep] at HG ⊢
   rw [if_pos d4,if_pos d4]
   have HH:=Vh e1
   have HI:=Vh d3
   obtain ⟨f,hf⟩:∃f,XN S li*W=f:=⟨_,rfl⟩
   have HF:=Vh hf
   rw [hf] at hy HG ⊢
   have HY:=Vh hy
   clear h e1 e2 e3 e4 d1 d3 d4 hst hf ep
   go_enter Tryz.func165,Tryz.ntmps165
   go_wp2_with fail
   have hz:(w.alloc (.cells (vs l) 59)).heap[w.heap.size]? =some (.cells (vs l) 59 (0,0)):=by simp
   have C0:=Vh ((Chg.refl [] w).alloc (.cells (vs l) 59))
   generalize w.alloc (.cells (vs l) 59)=w1 at hz C0 ⊢
   refine (Qdd a b S W xs u li w1 (H.out.keep C0.out (by simp) (by simp)) h0).mono ?_
   rintro e w2 ⟨rfl,c2⟩
   have hz2:=c2.keep hz (by simp)
   have C2:=Vh (C0.out.trans c2)
   clear hz c2
   go_wp2_with fail
   refine (Qbc _ W W li _ w2 ((H.out.keep C2.out (by simp) (by simp)).sl li) HL.out.symm (by omega)).mono ?_
   rintro e w3 ⟨rfl,c3⟩
   rw [HH.out]
   have C3:=Vh (C2.out.trans c3)
   have hz3:=c3.keep hz2 (by simp)
   clear c3 hz2
   go_wp2_with fail
   refine (Qb3 _ W W _ w3 ((H.out.keep C3.out (by simp) (by simp)).sl li) HL.out.symm (by omega)).mono ?_
   rintro e w3' ⟨rfl,c3'⟩
   rw [HI.out]
   have C3':=Vh (C3.out.trans c3')
   have hz3':=c3'.keep hz3 (by simp)
   clear c3' hz3 C3
   rw [HF.out]
   have g1:(k:Int)<(W:Int):=by omega
   have g0:(0:Int)≤(k:Int):=by omega
   have g2:(W:Int)≤8:=by omega
   have t1:decide ((k:Int)<0)=false:=by simp
   have A3:=Vh (H.out.keep C3'.out (by simp) (by simp))
   have oz3:=old hz3'
   have HNZ:=Vh (show w.heap.size∉[a] by have:=H.out.olda;simp;omega)
   have HNZ2:=Vh (show w.heap.size∉[a,b] by have:=H.out.olda;have:=H.out.oldb;simp;omega)
   have HNB:=Vh (show (w.heap.size=b)=False by have:=H.out.oldb;simp;omega)
   have hnb:=HNB.out
   have rh:=slt_has hy [] 147
   have rp:=Qh0 hy [] 147 (0,0) ⟨st,li,l,u+1,hl8⟩
   rw [Nat.add_mul] at rh rp
   go_wp2_with fail
   go_region_held3 (fun w'=>w'.heap[w.heap.size]? =some (.cells (vs l) 59 (0,0))) (first |exact hz3'|exact c4.keep hz3' HNZ.out|exact ((c4.mono (l':=[a,b]) (by simp)).putRow b _ _ (.inl (by simp))).keep hz3' HNZ2.out)
    (first |(go_at_call 216;refine (next_chg a b S W xs u _ (A3.out.keep ((Chg.refl [] w3').drew) (by simp) (by simp)) u0 u1).mono ?_;rintro e w' ⟨rfl,c4,a4⟩;have hb4:=a4.2.1;have ob4:=old hb4))
   all_goals
    have A4:=Vh a4
    have C4:=Vh c4
    clear a4 c4
    go_wp2_with fail
    go_ret
    refine ⟨rfl,?_,?_⟩
    ·exact ((((C3'.out.mono (l':=[a,b]) (by simp)).drew).trans (C4.out.mono (l':=[a,b]) (by simp))).putRow _ _ _ (.inl (by simp)))
    ·have:=A4.out.putSlot (k:=f+k) (by rw [←HF.out];exact (show xs[XN S li*W+k]? =some y by rw [HF.out];exact HY.out)) ⟨st,li,l,u+1,hl8⟩ HG.out
     rw [Nat.add_mul] at this
     exact this
  ·have ep:Qc5 S W xs li=xs.length:=by unfold Qc5;rw [e3,d2,if_neg (by omega),if_neg (by omega)]
   rw [ep,Qhg,if_neg (by omega),if_neg (by omega)]
   have HH:=Vh e1
   have HI:=Vh d1
   clear h e1 e2 e3 e4 d1 d2 d3 ep
   go_enter Tryz.func165,Tryz.ntmps165
   go_wp2_with fail
   have hz:(w.alloc (.cells (vs l) 59)).heap[w.heap.size]? =some (.cells (vs l) 59 (0,0)):=by simp
   have C0:=Vh ((Chg.refl [] w).alloc (.cells (vs l) 59))
   generalize w.alloc (.cells (vs l) 59)=w1 at hz C0 ⊢
   refine (Qdd a b S W xs u li w1 (H.out.keep C0.out (by simp) (by simp)) h0).mono ?_
   rintro e w2 ⟨rfl,c2⟩
   have hz2:=c2.keep hz (by simp)
   have C2:=Vh (C0.out.trans c2)
   clear hz c2
   go_wp2_with fail
   refine (Qbc _ W W li _ w2 ((H.out.keep C2.out (by simp) (by simp)).sl li) HL.out.symm (by omega)).mono ?_
   rintro e w3 ⟨rfl,c3⟩
   rw [HH.out]
   have C3:=Vh (C2.out.trans c3)
   have hz3:=c3.keep hz2 (by simp)
   clear c3 hz2
   go_wp2_with fail
   refine (Qb3 _ W W _ w3 ((H.out.keep C3.out (by simp) (by simp)).sl li) HL.out.symm (by omega)).mono ?_
   rintro e w3' ⟨rfl,c3'⟩
   rw [HI.out]
   have C3':=Vh (C3.out.trans c3')
   have hz3':=c3'.keep hz3 (by simp)
   clear c3' hz3 C3
   go_wp2_with fail
   go_ret
   exact ArrTo.same H.out C3'.out _
end
section
set_option maxHeartbeats 1000000
attribute [local go_sem ↓] Qv QF Qx QP QG Qs Zg Q7 ZH Zt Qk Qh heap_alloc Ql heap_setCell Qc XG XP XO
attribute [local go_sem] Qb Qa Qe Qi Qd Qg Qf Qt Zk Zf ZE QB Qw QN QL QM Q6 QJ QA Qr QD QX QI Qq QC Qp Qj Qo Qn Qm Zj Zv lit8 QV Xc ZG ZL ZV Zn
attribute [local simp ↓] Qk Qh heap_alloc Ql heap_setCell Qc
attribute [local simp] Qb Qa Qe Qi Qd Qg Qf Qt Qr Qj Qo Qn Qm QV
def Qga (w0:World) (ys:List Slt) (e:Ending) (w':World):Prop:=∃A c,e=.returned (.slice A ys.length c)∧Sl w' 11 A ys.length (cat Slt.enc ys)∧Chg [] w0 w'
theorem slt_slice (w:World) (s:Slt) (t:TypeId):Sl (w.alloc (.cells (slc s) t)) 11 (some ⟨w.heap.size,0,none⟩) 1 (cat Slt.enc [s]):=
 ⟨by rw [Q9 Slt.len];rfl,.inr ⟨w.heap.size,0,slc s,t,(0,0),rfl,by simp,by rw [Qdb];simp [slc,Slt.len,List.take_of_length_le]⟩⟩
theorem live_succ {xs:List Slt} {k:Nat} {y:Slt} (h:xs[k]? =some y) (hs:y.st≠0):live (xs.take k)++[y]=live (xs.take (k+1)):=by rw [live_take h,if_neg hs]
theorem live_skip {xs:List Slt} {k:Nat} {y:Slt} (h:xs[k]? =some y) (hs:y.st=0):live (xs.take k)=live (xs.take (k+1)):=by rw [live_take h,if_pos hs,List.append_nil]
theorem live_take_le (xs:List Slt) (k:Nat):(live (xs.take k)).length≤k:=Nat.le_trans (live_le _) (by rw [List.length_take];exact Nat.min_le_left _ _)
theorem aslots_ok (a b S W:Nat) (xs:List Slt) (u:Int) (w:World) (h:Arr w a b S W xs u):
 Calls Tryz.prog 129 #[.pointer (some ⟨a,0,none⟩)] w (Qga w (live xs)):=by
 have ha:=h.1
 have HB:=Vh h.2.1
 have h64:=h.2.2.2.len64
 have HOA:=Vh h.olda
 obtain ⟨n,hn⟩:∃n,xs.length=n:=⟨_,rfl⟩
 have HN:=Vh hn
 rw [hn] at ha h64
 have g2:(n:Int)≤64:=by omega
 clear h hn
 go_enter Tryz.func129,Tryz.ntmps129
 go_wp2_with fail
 go_loopw [13,3] (fun i s3 wr=>∃(k be cap:Nat) (A:Option Addr),k≤n∧i=.int .i64 k∧s3=.slice A (live (xs.take k)).length cap∧Chg [] w wr∧Vec 11 147 Slt.enc wr a be A cap (live (xs.take k))∧(be=a∨w.heap.size≤be)) (fun i _ _=>n-(intOf i).toNat)
 case atStart=>exact ⟨0,a,0,none,by omega,rfl,rfl,Chg.refl _ _,Vec.nil _ _ _ _ _,.inl rfl⟩
 case round=>
  obtain ⟨k,be,cap,A,hk,rfl,rfl,hc,hv,hbe⟩:=hrel
  have HC:=Vh hc
  have HV:=Vh hv
  have HE:=Vh hbe
  clear hc hv hbe
  by_cases hlt:k<n
  ·obtain ⟨y,hy⟩:∃y,xs[k]? =some y:=⟨xs[k]'(by rw [HN.out];exact hlt),List.getElem?_eq_getElem _⟩
   have hb:=HC.out.keep HB.out (by simp)
   have ob:=old hb
   have r1:=slt_row hy [] 147 (0,0)
   have r2:=slt_rowIn hy [] 147 (0,0)
   have g1:(k:Int)<(n:Int):=by omega
   have g0:(0:Int)≤(k:Int):=by omega
   have HY:=Vh hy
   have HLE:=Vh (live_take_le xs k)
   clear hy
   by_cases hs:y.st=0
   ·have t1:(y.st !=0)=false:=by simp [hs]
    have HP:=Vh (live_skip HY.out hs)
    go_wp2_with fail
    go_roundw
    case rel=>
     rw [HP.out]
     refine ⟨k+1,be,cap,A,by omega,by go_num,rfl,HC.out.alloc _,?_,HE.out⟩
     rw [←HP.out]
     exact HV.out.keep ((Chg.refl [] wr).alloc _) (by simp)
    case measure=>simp [intOf];omega
   ·have t1:(y.st !=0)=true:=by simp [hs]
    have HP:=Vh (live_succ HY.out hs)
    have c1:=(Chg.refl [] wr).alloc (.cells (slc y) 147)
    have hx1:(wr.alloc (.cells (slc y) 147)).heap[wr.heap.size]? =some (.cells (slc y) 147 (0,0)):=by simp
    have e1:(wr.alloc (.cells (slc y) 147)).heap.size=wr.heap.size+1:=by simp
    obtain ⟨be',cap',A',w2,happ,hv2,hbe2,hc2⟩:=Vec.acc (ty:=144) eltSlot (w0:=w) (((HC.out.alloc (.cells (slc y) 147)).alloc (.cells (slc y) 147)))
     ((HV.out.keep c1 (by simp)).keep ((Chg.refl [] _).alloc (.cells (slc y) 147)) (by simp)) HE.out HOA.out (slt_slice (wr.alloc (.cells (slc y) 147)) y 147) (c:=1) rfl (by have:=HLE.out;omega) (by have:=HLE.out;unfold maxLen;omega)
    rw [e1] at happ
    have HV2:=Vh hv2
    have HB2:=Vh hbe2
    have HC2:=Vh hc2
    clear hv2 hbe2 hc2 c1 e1
    go_wp2_with fail
    go_roundw
    case rel=>
     refine ⟨k+1,be',cap',A',by omega,by go_num,?_,HC2.out,by rw [←HP.out];exact HV2.out,HB2.out⟩
     rw [←HP.out,List.length_append];rfl
    case measure=>simp [intOf];omega
  ·obtain rfl:k=n:=by omega
   go_wp2_with fail
   go_ret
   have e1:live (xs.take k)=live xs:=by rw [←HN.out,List.take_length]
   rw [e1] at HV ⊢
   exact ⟨A,cap,rfl,HV.out.sl Slt.len,HC.out⟩
def Qb1 (s w:Int):Prop:=(s=1∨s=2∨s=4∨s=8)∧1≤w∧w≤8
instance (s w:Int):Decidable (Qb1 s w):=inferInstanceAs (Decidable (_∧_))
theorem run_make_slots (w:World) (n:Nat) (hn:n≤64):mkR Tryz.prog 144 (.int .i64 n) (.int .i64 n) w=.ok (.slice (some ⟨w.heap.size,0,none⟩) n n) (w.alloc (.cells (sq Slt.enc (List.replicate n sltZ) []) 147)):=by
 obtain ⟨i0,hi0,hz0,hz1,hz2⟩:=info_parts slot_info
 have:=run_make (P:=Tryz.prog) w 144 147 i0 _ Tryz.underlying144 hi0 hz0 .i64 .i64 n n (by omega) (by omega) (by rw [hz2];omega) (by omega)
 simp only [Int.toNat_natCast,hz1] at this
 rw [←made_slots]
 exact this
def MadeArr (w0:World) (S W:Nat) (e:Ending) (w':World):Prop:=
 ∃a b,e=.returned (.tuple #[.pointer (some ⟨a,0,none⟩),.int .i64 0])∧w0.heap.size≤a∧w0.heap.size≤b∧Chg [] w0 w'∧Arr w' a b S W (List.replicate (S*W) sltZ) 0
theorem anew_ok (S W:Nat) (w:World) (h:Qb1 S W):Calls Tryz.prog 98 #[.int .i64 S,.int .i64 W] w (MadeArr w S W):=by
 have HS:=Vh (show S=1∨S=2∨S=4∨S=8 by unfold Qb1 at h;omega)
 have hW1:1≤W:=by unfold Qb1 at h;omega
 have hW8:W≤8:=by unfold Qb1 at h;omega
 have t1:decide ((W:Int)<1)=false:=by simp;omega
 have t2:decide ((8:Int)<(W:Int))=false:=by simp;omega
 have hS8:S≤8:=by have:=HS.out;omega
 have h64:S*W≤64:=Nat.mul_le_mul hS8 hW8
 have HG:=Vh (Good.new HS.out hW1 hW8)
 obtain ⟨N,hN⟩:∃N,S*W=N:=⟨_,rfl⟩
 have hN':(S:Int)*(W:Int)=(N:Int):=by rw [←hN,Int.natCast_mul]
 rw [hN] at h64 HG
 have hmk:=run_make_slots w N h64
 have g2:(N:Int)≤64:=by omega
 unfold MadeArr
 rw [hN]
 clear h hN
 go_enter Tryz.func98,Tryz.ntmps98
 go_wp2_with (go_at_call 131;refine (isSets_yes S _ HS.out).mono ?_;rintro e w' ⟨rfl,rfl⟩)
 go_ret2
 refine ⟨w.heap.size+1,w.heap.size,rfl,by omega,by omega,((Chg.refl [] w).alloc _).alloc _,?_,?_,by omega,HG.out⟩
 ·simp
 ·simp
end
section
set_option maxHeartbeats 1000000
attribute [local go_sem ↓] Qv QF Qx QP QG Qs Zg Q7 ZH Zt Qk Qh heap_alloc Ql heap_setCell Qc XG XP XO
attribute [local go_sem] Qb Qa Qe Qi Qd Qg Qf Qt Zk Zf ZE QB Qw QN QL QM Q6 QJ QA Qr QD QX QI Qq QC Qp Qj Qo Qn Qm Zj Zv lit8 QV Xc ZG ZL ZV Zn
attribute [local simp ↓] Qk Qh heap_alloc Ql heap_setCell Qc
attribute [local simp] Qb Qa Qe Qi Qd Qg Qf Qt Qr Qj Qo Qn Qm QV
def ASys (W w:World) (a b S N:Nat) (xs:List Slt) (u:Int):Prop:=Chg [] W w∧Arr w a b S N xs u∧W.heap.size≤a∧W.heap.size≤b
theorem ASys.keep {W w w':World} {a b S N:Nat} {xs:List Slt} {u:Int} (h:ASys W w a b S N xs u) (hc:Chg [] w w'):ASys W w' a b S N xs u:=
 ⟨h.1.trans hc,h.2.1.keep hc (by simp) (by simp),h.2.2⟩
theorem ASys.in2 {W w:World} {a b S N:Nat} {xs:List Slt} {u:Int} (h:ASys W w a b S N xs u):∀x∈[a,b],x∈([]:List Nat)∨W.heap.size≤x:=by
 intro x hx
 have:=h.2.2
 simp only [List.mem_cons,Vn,or_false] at hx
 rcases hx with rfl|rfl<;>omega
theorem ASys.new2 {W w:World} {a b S N:Nat} {xs:List Slt} {u:Int} (h:ASys W w a b S N xs u) {k:Nat} (hk:w.heap.size≤k):k∉[a,b]:=by
 have h1:=h.2.1.olda
 have h2:=h.2.1.oldb
 simp;omega
theorem ASys.good {W w:World} {a b S N:Nat} {xs:List Slt} {u:Int} (h:ASys W w a b S N xs u):Good S N xs:=h.2.1.2.2.2
def ASysTo (W w:World) (a b S N:Nat) (xs:List Slt) (u:Int) (v:Value) (e:Ending) (w':World):Prop:=e=.returned v∧ASys W w' a b S N xs u∧Chg [a,b] w w'
theorem ASys.to {W w:World} {a b S N:Nat} {xs xs':List Slt} {u u':Int} (h:ASys W w a b S N xs u) {v:Value} {f:FuncId} {args:Array Value} (hc:Calls Tryz.prog f args w (ArrTo w a b S N xs' u' v)):Calls Tryz.prog f args w (ASysTo W w a b S N xs' u' v):=
 hc.mono fun e w' ⟨he,hc,ha⟩=>⟨he,⟨h.1.trans' hc h.in2,ha,h.2.2⟩,hc⟩
section
variable {W w:World} {a b S N:Nat} {xs:List Slt} {u:Int} (h:ASys W w a b S N xs u)
include h
theorem sys_set (u0:0≤u) (u1:u≤1000000000) (li st:Int) (l:List Int) (hl8:l.length=8):Calls Tryz.prog 165 #[.pointer (some ⟨a,0,none⟩),.int .i64 li,.int .i64 st,.agg (vs l)] w (ASysTo W w a b S N (setXs S N xs u li st l hl8) (setU S N xs u li st) (.int .i64 (setVal S N xs li st))):=
 h.to (asetl_any a b S N xs u li st l hl8 w h.2.1 u0 u1)
theorem sys_touch (u0:0≤u) (u1:u≤1000000000) (li:Int):Calls Tryz.prog 241 #[.pointer (some ⟨a,0,none⟩),.int .i64 li] w (ASysTo W w a b S N (touchXs xs u li) (Qdk xs u li) (.tuple #[])):=
 h.to (atouch_any a b S N xs u li w h.2.1 u0 u1)
theorem sys_drop (li:Int):Calls Tryz.prog 164 #[.pointer (some ⟨a,0,none⟩),.int .i64 li] w (ASysTo W w a b S N (dropXs xs li) u (.bool (XM xs li))):=
 h.to (adrop_any a b S N xs u li w h.2.1)
end
theorem sys_new (S N:Nat) (W w:World) (hc:Chg [] W w) (h:Qb1 S N):Calls Tryz.prog 98 #[.int .i64 S,.int .i64 N] w fun e w'=>∃a b,e=.returned (.tuple #[.pointer (some ⟨a,0,none⟩),.int .i64 0])∧ASys W w' a b S N (List.replicate (S*N) sltZ) 0∧Chg [] w w':=
 (anew_ok S N w h).mono fun e w' ⟨a,b,he,h1,h2,h3,h4⟩=>⟨a,b,he,⟨hc.trans h3,h4,by have:=hc.size;omega,by have:=hc.size;omega⟩,h3⟩
end
section
set_option maxHeartbeats 1000000
set_option maxRecDepth 100000
attribute [local go_sem ↓] Qv QF Qx QP QG Qs Zg Q7 ZH Zt Qk Qh heap_alloc Ql heap_setCell Qc XG XP XO Zi ZP Zu Xk ZQ Xq Xp Xy Xx
attribute [local go_sem] Qb Qa Qe Qi Qd Qg Qf Qt Zk Zf ZE QB Qw QN QL QM Q6 QJ QA Qr QD QX QI Qq QC Qp Qj Qo Qn Qm Zj Zv lit8 QV Xc ZG ZL ZV Zn ZM Xj ZN QH ZO Zx Zy QZ QY Zb XB
attribute [local simp ↓] Qk Qh heap_alloc Ql heap_setCell Qc
attribute [local simp] Qb Qa Qe Qi Qd Qg Qf Qt Qr Qj Qo Qn Qm QV QH QZ QY Zb QD
attribute [local go_sem ↓] YL
attribute [local simp] YL
theorem mqlen_ok (T:TypeId) (C:Array Value) (q o:Nat) (A:Option Addr) (n cap:Nat) (w:World) (hq:w.heap[q]? =some (.cells C T (0,0))) (hC:C[o]? =some (.slice A n cap)):Calls Tryz.prog 199 #[.pointer (some ⟨q,o,none⟩)] w fun e w'=>e=.returned (.int .i64 n)∧w=w':=by
 go_enter Tryz.func199,Tryz.ntmps199
 try dsimp only [List.append]
 exact Tz34
theorem qhead_ok (T:TypeId) (C:Array Value) (q o:Nat) (be:Nat) (A:Option Addr) (cap:Nat) (xs:List Ms) (w:World) (hq:w.heap[q]? =some (.cells C T (0,0))) (hC:C[o]? =some (.slice A xs.length cap)) (hl:xs.length≤1000) (hV:Vof 12 184 Ms.enc w q be A cap xs):
 Calls Tryz.prog 148 #[.pointer (some ⟨q,o,none⟩)] w fun e w'=>e=.returned (.tuple #[.agg (msc (Qg7 xs)),.bool (Qde xs)])∧Chg [] w w':=by
 cases xs with
 |nil=>
  have HQ:=Vh hq
  clear hV
  go_enter Tryz.func148,Tryz.ntmps148
  try dsimp only [List.append]
  go_wp2_with fail
  refine (mqlen_ok T C q o A 0 cap _ (((Chg.refl [] w).alloc (.cells (msc msZ) 184)).keep HQ.out (by simp)) hC).mono ?_
  rintro e w' ⟨rfl,rfl⟩
  go_wp2_with fail
  refine bodyPost_ret (v:=.tuple #[.agg (msc msZ),.bool false]) ?_ (by rfl) ?_
  ·exact YJ (by rfl) _ _ w.heap.size msZ (0,0) (by rfl) (by simp [*]) _ (by rfl)
  ·exact ⟨rfl,(Chg.refl _ _).alloc _⟩
 |cons x xs=>
  obtain ⟨hne,o',C',rfl,hb,hi,hp⟩:=hV.first Ms.len
  have hp':XF (some (.cells C' 184 (0,0))) o' 12=msc x:=hp
  have oq:=old hq
  have ob:=old hb
  have l6:(xs.length:Int)+1≤1000:=by simp at hl;omega
  have g1:(0:Int)<(xs.length:Int)+1:=by omega
  have t1:(((xs.length:Int)+1)==0)=false:=by simp;omega
  have hC':C[o]? =some (.slice (some ⟨be,o',none⟩) (xs.length+1) cap):=hC
  have HQ:=Vh hq
  rw [Qcu]
  clear hV hp hl hC
  go_enter Tryz.func148,Tryz.ntmps148
  try dsimp only [List.append]
  go_wp2_with (go_at_call 199;refine (mqlen_ok T C q o _ (xs.length+1) cap _ (((Chg.refl [] w).alloc (.cells (msc msZ) 184)).keep HQ.out (by simp)) hC').mono ?_;rintro e w' ⟨rfl,rfl⟩;rw [show ((xs.length+1:Nat):Int)=(xs.length:Int)+1 by simp])
  refine bodyPost_ret (v:=.tuple #[.agg (msc x),.bool true]) ?_ (by rfl) ?_
  ·exact YJ (by rfl) _ _ w.heap.size x (0,0) (by rfl) (by simp [*]) _ (by rfl)
  ·exact ⟨rfl,(Chg.refl _ _).alloc _⟩
def QueTo (T:TypeId) (C:Array Value) (q o be:Nat) (w:World) (ys:List Ms) (v:Value):Ending→World→Prop:=fun e w'=>
 e=.returned v∧∃be' A' cap',w'.heap[q]? =some (.cells (C.setIfInBounds o (.slice A' ys.length cap')) T (0,0))∧Vof 12 184 Ms.enc w' q be' A' cap' ys∧Chg [q,be] w w'∧(be'=be∨w.heap.size≤be')
theorem setSame {C:Array Value} {o:Nat} {v:Value} (h:C[o]? =some v):C.setIfInBounds o v=C:=by
 obtain ⟨h1,h2⟩:=Array.getElem?_eq_some_iff.1 h
 apply Array.ext_getElem?
 intro i
 rw [Array.getElem?_setIfInBounds]
 split
 ·rename_i e
  subst e
  rw [h]
 ·rfl
theorem qpop_ok (T:TypeId) (C:Array Value) (q o:Nat) (be:Nat) (A:Option Addr) (cap:Nat) (xs:List Ms) (w:World) (hq:w.heap[q]? =some (.cells C T (0,0))) (hC:C[o]? =some (.slice A xs.length cap)) (hl:xs.length≤1000) (hV:Vof 12 184 Ms.enc w q be A cap xs):
 Calls Tryz.prog 155 #[.pointer (some ⟨q,o,none⟩)] w (QueTo T C q o be w xs.tail (.tuple #[.agg (msc (Qg7 xs)),.bool (Qde xs)])):=by
 have oq:=old hq
 have r0:(w.alloc (.cells (msc msZ) 184)).heap[w.heap.size]? =some (.cells (msc msZ) 184 (0,0)):=by simp
 have C0:=Vh ((Chg.refl [] w).alloc (.cells (msc msZ) 184))
 have hhd:=fun w1 (c:Chg [] w w1)=>qhead_ok T C q o be A cap xs w1 (c.keep hq (by simp)) hC hl (hV.keep c (by simp))
 have HH:=Vh hhd
 have HV:=Vh hV
 have HQ:=Vh hq
 have HL:=Vh hl
 have HQS:w.heap.size≠q:=by have:=oq.lt;omega
 have HQT:q≠w.heap.size:=fun e=>HQS e.symm
 clear hhd hV oq hl
 cases xs with
 |nil=>
  have HC:=Vh hC
  clear hC hq
  go_enter Tryz.func155,Tryz.ntmps155
  try dsimp only [List.append]
  go_wp2_with fail
  generalize w.alloc (.cells (msc msZ) 184)=w1 at r0 C0 ⊢
  refine (HH.out w1 C0.out).mono ?_
  rw [Qfo,show Qde ([]:List Ms)=false from rfl]
  rintro e w2 ⟨rfl,c2⟩
  have r2:=c2.keep r0 (by simp)
  have o2:=old r2
  have C2:=Vh (C0.out.trans c2)
  clear r0 C0 c2
  go_wp2_with fail
  refine bodyPost_ret (v:=.tuple #[.agg (msc msZ),.bool false]) ?_ (by rfl) ?_
  ·exact YJ (by rfl) _ _ w.heap.size msZ (0,0) (by rfl) (by simp [*]) _ (by rfl)
  ·have C9:=(C2.out.alloc (.cells (msc msZ) 184)).putRow w.heap.size 0 (msc msZ) (.inr (by simp))
   refine ⟨rfl,be,A,cap,?_,HV.out.keep C9 (by simp),C9.mono (by simp),.inl rfl⟩
   rw [show (([]:List Ms).tail.length)=([]:List Ms).length from rfl,setSame HC.out]
   exact C9.keep HQ.out (by simp)
 |cons x xs=>
  have hsl:=slR_tail (P:=Tryz.prog) eltMsg A xs.length cap (by have:=HV.out.le;simpa using this)
  have HT:=Vh (HV.out.tail Ms.len)
  have hne:=(HV.out.first Ms.len).1
  have HN:=Vh hne
  have OB:=Vh (HV.out.old (old HQ.out))
  have hC':C[o]? =some (.slice A (xs.length+1) cap):=hC
  have OI:=Vh (Array.getElem?_eq_some_iff.1 hC).1
  have HC:=Vh hC'
  clear hne hC hC' hq
  go_enter Tryz.func155,Tryz.ntmps155
  try dsimp only [List.append]
  go_wp2_with fail
  generalize w.alloc (.cells (msc msZ) 184)=w1 at r0 C0 ⊢
  refine (HH.out w1 C0.out).mono ?_
  rw [Qcu,show Qde (x::xs)=true from rfl]
  rintro e w2 ⟨rfl,c2⟩
  have r2:=c2.keep r0 (by simp)
  have o2:=old r2
  have C2:=Vh (C0.out.trans c2)
  have q2:=C2.out.keep HQ.out (by simp)
  have oq2:=old q2
  have hC':=HC.out
  clear r0 C0 c2
  go_wp2_with fail
  refine bodyPost_ret (v:=.tuple #[.agg (msc x),.bool true]) ?_ (by rfl) ?_
  ·exact YJ (by rfl) _ _ w.heap.size x (0,0) (by rfl) (by simp [*]) _ (by rfl)
  ·have C9:=(((Chg.refl [q] w2).alloc (.cells (msc x) 184)).setCell q o (.slice (Qf4 12 A cap) xs.length (cap-1)) (.inl (by simp))).mono (l':=[q,w.heap.size]) (by simp)
   have C9:=C9.putRow w.heap.size 0 (msc x) (.inl (by simp))
   have hq9:(putRow ((w2.alloc (.cells (msc x) 184)).setCell ⟨q,o,none⟩ (.slice (Qf4 12 A cap) xs.length (cap-1))) w.heap.size 0 (msc x)).heap[q]? =some (.cells (C.setIfInBounds o (.slice (Qf4 12 A cap) xs.length (cap-1))) T (0,0)):=by simp [*]
   have hbw:be≠w.heap.size:=by have:=OB.out.lt;omega
   have hbs:=HN.out
   refine ⟨rfl,be,_,_,hq9,?_,(C2.out.mono (l':=[q,be]) (by simp)).trans' C9 (by simp),.inl rfl⟩
   exact (HT.out.keep C2.out (by simp)).keep C9 (by simp;exact ⟨HN.out,hbw⟩)
theorem qpush_ok (T:TypeId) (C:Array Value) (q o:Nat) (be:Nat) (A:Option Addr) (cap:Nat) (xs:List Ms) (m:Ms) (w:World) (hq:w.heap[q]? =some (.cells C T (0,0))) (hC:C[o]? =some (.slice A xs.length cap)) (hl:xs.length<1000) (hV:Vof 12 184 Ms.enc w q be A cap xs) (hT:Tab w) (hm:mg m=true):
 Calls Tryz.prog 156 #[.pointer (some ⟨q,o,none⟩),.agg (msc m)] w (QueTo T C q o be w (xs++[m]) (.int .i64 0)):=by
 have r0:(w.alloc (.cells (msc m) 184)).heap[w.heap.size]? =some (.cells (msc m) 184 (0,0)):=by simp
 have C0:=Vh ((Chg.refl [] w).alloc (.cells (msc m) 184))
 have hg1:∀w1,Chg [] w w1→Calls Tryz.prog 151 #[.agg (msc m)] w1 (fun e w'=>e=.returned (.bool true)∧Chg [] w1 w'):=fun w1 c=>hm▸Qif m w1 (hT.keep c (by simp))
 have HG:=Vh hg1
 have HV:=Vh hV
 have HQ:=Vh hq
 have HF:=Vh hl
 have HC:=Vh hC
 have OI:=Vh (Array.getElem?_eq_some_iff.1 hC).1
 have t1:decide ((1000:Int)≤(xs.length:Int))=false:=by simp;omega
 clear hg1 hV hq hC hT hm hl
 go_enter Tryz.func156,Tryz.ntmps156
 try dsimp only [List.append]
 go_wp2_with fail
 generalize w.alloc (.cells (msc m) 184)=w1 at r0 C0 ⊢
 refine (HG.out w1 C0.out).mono ?_
 rintro e w2 ⟨rfl,c2⟩
 have r2:=c2.keep r0 (by simp)
 have o2:=old r2
 have C2:=Vh (C0.out.trans c2)
 have q2:=C2.out.keep HQ.out (by simp)
 have oq:=old q2
 have hC:=HC.out
 clear r0 C0 c2
 have ca:=((Chg.refl [] w2).alloc (.cells (msc m) 184)).drew
 obtain ⟨be',cap',A',w3,happ,hv2,hbe,hc2,hqq⟩:=((HV.out.keep C2.out (by simp)).keep ca (by simp)).app (ty:=141) eltMsg (oq.chg ca) (msg_slice w2 m) (c:=1) rfl (by have:=HF.out;omega) (by have:=HF.out;unfold maxLen;omega)
 have hq2:w3.heap[q]? =some (.cells C T (0,0)):=by rw [hqq];exact ca.keep q2 (by simp)
 have HV2:=Vh hv2
 have HB:=Vh hbe
 have HC2:=Vh hc2
 have HCA:=Vh ca
 clear hv2 hbe hc2 hqq ca
 go_wp2_with fail
 go_region
 all_goals
  go_wp2
  go_ret
  have hsz:w.heap.size≤w2.heap.size:=C2.out.size
  have hne:be'≠q:=by
   obtain ⟨x,l,hl⟩:∃x l,xs++[m]=x::l:=by cases xs<;>simp
   exact ((hl▸HV2.out).first Ms.len).1
  have hbn:be'=be∨w.heap.size≤be':=by
   have h1:=HB.out
   have h3:((w2.alloc (.cells (msc m) 184)).drew).heap.size=w2.heap.size+1:=by simp
   omega
  have C9:Chg [q,be] w (w3.setCell ⟨q,o,none⟩ (.slice A' (xs.length+1) cap')):=(((C2.out.trans HCA.out).mono (l':=[q,be]) (by simp)).trans' HC2.out (by simp)).setCell _ _ _ (.inl (by simp))
  refine ⟨rfl,be',A',cap',?_,?_,C9,hbn⟩
  ·rw [show (xs++[m]).length=xs.length+1 by simp]
   simp [hq2]
  ·exact HV2.out.keep ((Chg.refl [q] w3).setCell _ _ _ (.inl (by simp))) (by simpa using hne)
end
section
set_option maxHeartbeats 1000000
set_option maxRecDepth 100000
attribute [local go_sem ↓] Qv QF Qx QP QG Qs Zg Q7 ZH Zt Qk Qh heap_alloc Ql heap_setCell Qc XG XP XO Zi ZP Zu Xk ZQ Xq Xp Xy Xx
attribute [local go_sem] Qb Qa Qe Qi Qd Qg Qf Qt Zk Zf ZE QB Qw QN QL QM Q6 QJ QA Qr QD QX QI Qq QC Qp Qj Qo Qn Qm Zj Zv lit8 QV Xc ZG ZL ZV Zn ZM Xj ZN QH ZO Zx Zy QZ QY Zb XB
attribute [local simp ↓] Qk Qh heap_alloc Ql heap_setCell Qc
attribute [local simp] Qb Qa Qe Qi Qd Qg Qf Qt Qr Qj Qo Qn Qm QV QH QZ QY Zb QD
attribute [local go_sem ↓] YL
attribute [local simp] YL
theorem ms_whole {w wr:World} {l:List Nat} {n b o k:Nat} {ys:List Ms} {y:Ms} (h:Sl w 12 (some ⟨b,o,none⟩) n (cat Ms.enc ys)) (hc:Chg l w wr) (hb:b∉l) (hk:k<n) (hy:ys[k]? =some y):
 ∃c t f,wr.heap[b]? =some (.cells c t f)∧Qbo (some (.cells c t f)) (o+k*12) 12=true∧XF (some (.cells c t f)) (o+k*12) 12=msc y:=by
 obtain ⟨cs,t,f,hb,_,hpa⟩:=(h.chg hc (by simpa using hb)).elem (by omega) hk (YI Ms.len hy)
 obtain ⟨r1,r2⟩:=hpa 0 12 (by omega)
 rw [Nat.add_zero] at r1 r2
 refine ⟨cs,t,f,hb,r1,?_⟩
 rw [r2]
 simp [msc,Ms.len,List.take_of_length_le]
theorem zhead_ok (T:TypeId) (C:Array Value) (q o be:Nat) (A:Option Addr) (cap:Nat) (xs:List Ms) (w:World) (hq:w.heap[q]? =some (.cells C T (0,0))) (hC:C[o]? =some (.slice A xs.length cap)) (hB:C[o+1]? =some (.slice none 0 0)) (hl:xs.length≤1000) (hV:Vof 12 184 Ms.enc w q be A cap xs):
 Calls Tryz.prog 112 #[.pointer (some ⟨q,o,none⟩)] w fun e w'=>e=.returned (.tuple #[.agg (msc (Qg7 xs)),.bool (Qde xs)])∧Chg [] w w':=by
 have C0:=Vh ((Chg.refl [] w).alloc (.cells (msc msZ) 184))
 have oq:=old hq
 have HH:=Vh (fun w1 (c:Chg [] w w1)=>qhead_ok T C q o be A cap xs w1 (c.keep hq (by simp)) hC hl (hV.keep c (by simp)))
 clear hV hl hC hB
 generalize Qg7 xs=m at HH ⊢
 generalize Qde xs=sb at HH ⊢
 go_enter Tryz.func112,Tryz.ntmps112
 try dsimp only [List.append]
 go_wp2_with fail
 refine (HH.out _ C0.out).mono ?_
 rintro e w2 ⟨rfl,c2⟩
 have r2:w2.heap[w.heap.size]? =some (.cells (msc msZ) 184 (0,0)):=c2.keep (by simp) (by simp)
 have o2:=old r2
 have CC:=Vh (C0.out.trans c2)
 clear C0 c2
 go_wp2_with fail
 refine bodyPost_ret (v:=.tuple #[.agg (msc m),.bool sb]) ?_ (by rfl) ?_
 ·exact YJ (by rfl) _ _ w.heap.size m (0,0) (by rfl) (by simp [*]) _ (by rfl)
 ·exact ⟨rfl,CC.out.putRow _ _ _ (.inr (Nat.le_refl _))⟩
theorem Qbw {C:Array Value} {o k:Nat} {v x:Value} (h:C[k]? =some x) (hk:o≠k):(C.setIfInBounds o v)[k]? =some x:=by
 rw [Array.getElem?_setIfInBounds_ne hk];exact h
theorem set_this {C:Array Value} {o:Nat} {v x:Value} (h:C[o]? =some x):(C.setIfInBounds o v)[o]? =some v:=by
 have:=(Array.getElem?_eq_some_iff.1 h).1
 simp [this]
theorem set_twice {C:Array Value} {o:Nat} {v x:Value}:(C.setIfInBounds o v).setIfInBounds o x=C.setIfInBounds o x:=by
 apply Array.ext_getElem?
 intro i
 simp only [Array.getElem?_setIfInBounds,Array.size_setIfInBounds]
 split
 ·rfl
 ·rfl
theorem zpop_ok (T:TypeId) (C:Array Value) (q o be:Nat) (A:Option Addr) (cap:Nat) (xs:List Ms) (w:World) (hq:w.heap[q]? =some (.cells C T (0,0))) (hC:C[o]? =some (.slice A xs.length cap)) (hB:C[o+1]? =some (.slice none 0 0)) (hl:xs.length≤1000) (hV:Vof 12 184 Ms.enc w q be A cap xs):
 Calls Tryz.prog 115 #[.pointer (some ⟨q,o,none⟩)] w (QueTo T C q o be w xs.tail (.tuple #[.agg (msc (Qg7 xs)),.bool (Qde xs)])):=by
 have C0:=Vh ((Chg.refl [] w).alloc (.cells (msc msZ) 184))
 have oq:=old hq
 have OB:=Vh (hV.old oq)
 have HQS:w.heap.size≠q:=by have:=oq.lt;omega
 have HQB:w.heap.size≠be:=by have:=OB.out.lt;omega
 have HH:=Vh (fun w1 (c:Chg [] w w1)=>qpop_ok T C q o be A cap xs w1 (c.keep hq (by simp)) hC hl (hV.keep c (by simp)))
 have HB:=Vh hB
 clear hV hl hC hB
 generalize Qg7 xs=m at HH ⊢
 generalize Qde xs=sb at HH ⊢
 go_enter Tryz.func115,Tryz.ntmps115
 try dsimp only [List.append]
 go_wp2_with fail
 refine (HH.out _ C0.out).mono ?_
 rintro e w2 ⟨rfl,be',A',cap',hq2,hV2,c2,hb2⟩
 have r2:w2.heap[w.heap.size]? =some (.cells (msc msZ) 184 (0,0)):=c2.keep (by simp) (by simp [HQS,HQB])
 have o2:=old r2
 have oq2:=old hq2
 have hB2:(C.setIfInBounds o (.slice A' xs.tail.length cap'))[o+1]? =some (.slice none 0 0):=Qbw HB.out (by omega)
 have HQ2:=Vh hq2
 generalize hE:C.setIfInBounds o (.slice A' xs.tail.length cap')=C' at hq2 HQ2 hB2
 have HE:=Vh hE
 clear hE
 have HV2:=Vh hV2
 have CC:=Vh ((C0.out.mono (l':=[q,be]) (by simp)).trans c2)
 have HSZ:=Vh c2.size
 clear C0 c2 hq hV2
 go_wp2_with fail
 refine bodyPost_ret (v:=.tuple #[.agg (msc m),.bool sb]) ?_ (by rfl) ?_
 ·exact YJ (by rfl) _ _ w.heap.size m (0,0) (by rfl) (by simp [*]) _ (by rfl)
 ·have c9:Chg [w.heap.size] w2 _:=((Chg.refl [w.heap.size] w2).alloc (.cells (msc m) 184)).putRow w.heap.size 0 (msc m) (.inl (by simp))
  have h4:=OB.out.lt
  have h5:be'≠w.heap.size:=by
   rcases hb2 with h|h
   ·omega
   ·simp at h;omega
  refine ⟨rfl,be',A',cap',?_,HV2.out.keep c9 (by simpa using h5),(CC.out.alloc _).putRow _ _ _ (.inr (Nat.le_refl _)),?_⟩
  ·rw [HE.out]
   exact c9.keep HQ2.out (by simpa using Ne.symm HQS)
  ·rcases hb2 with h|h
   ·exact .inl h
   ·simp at h;exact .inr (by omega)
theorem zask_ok (T:TypeId) (C:Array Value) (q o be:Nat) (A:Option Addr) (cap:Nat) (xs:List Ms) (m:Ms) (w:World) (hq:w.heap[q]? =some (.cells C T (0,0))) (hC:C[o]? =some (.slice A xs.length cap)) (hB:C[o+1]? =some (.slice none 0 0)) (hl:xs.length<1000) (hV:Vof 12 184 Ms.enc w q be A cap xs) (hT:Tab w) (hm:mg m=true):
 Calls Tryz.prog 198 #[.pointer (some ⟨q,o,none⟩),.agg (msc m)] w (QueTo T C q o be w (xs++[m]) (.int .i64 0)):=by
 have C0:=Vh ((Chg.refl [] w).alloc (.cells (msc m) 184))
 have r0:(w.alloc (.cells (msc m) 184)).heap[w.heap.size]? =some (.cells (msc m) 184 (0,0)):=by simp
 have HH:=Vh (fun w1 (c:Chg [] w w1)=>qpush_ok T C q o be A cap xs m w1 (c.keep hq (by simp)) hC hl (hV.keep c (by simp)) (hT.keep c (by simp)) hm)
 have oq:=old hq
 have OB:=hV.old oq
 have NX:=Vh (show w.heap.size∉[q,be] by have h1:=oq.lt;have h2:=OB.lt;simp;omega)
 clear hV hl hC hB hT hm hq oq OB
 go_enter Tryz.func198,Tryz.ntmps198
 try dsimp only [List.append]
 go_wp2_with fail
 generalize w.alloc (.cells (msc m) 184)=w1 at r0 C0 ⊢
 go_region_held3 (fun w'=>w'.heap[w.heap.size]? =some (.cells (msc m) 184 (0,0))) (first |exact c2.keep r0 NX.out|exact r0)
  (first |(go_at_call 156;refine (HH.out _ C0.out.drew).mono ?_;rintro e w' ⟨rfl,be',A',cap',h1,h2,c2,h3⟩))
 go_wp2_with fail
 go_ret
 refine ⟨rfl,be',A',cap',h1,h2,(C0.out.drew.mono (l':=[q,be]) (by simp)).trans c2,?_⟩
 have:=C0.out.size
 rcases h3 with h|h
 ·exact .inl h
 ·exact .inr (Nat.le_trans this h)
theorem zsend_ok (T:TypeId) (C:Array Value) (q o be:Nat) (A:Option Addr) (cap:Nat) (xs:List Ms) (B:Option Addr) (n nc:Nat) (ms:List Ms) (w:World) (hq:w.heap[q]? =some (.cells C T (0,0))) (hC:C[o]? =some (.slice A xs.length cap)) (hB:C[o+1]? =some (.slice none 0 0)) (hl:xs.length+n≤1000) (hV:Vof 12 184 Ms.enc w q be A cap xs) (hT:Tab w) (h0:1∉[q,be]) (hn:n=ms.length) (hS:Sl w 12 B n (cat Ms.enc ms)) (hA:∀a,B=some a→a.block∉[q,be]) (hm:∀m∈ms,mg m=true):
 Calls Tryz.prog 120 #[.pointer (some ⟨q,o,none⟩),.slice B n nc] w (QueTo T C q o be w (xs++ms) (.tuple #[])):=by
 have oq:=old hq
 have OB:=Vh (hV.old oq)
 have OQ:=Vh oq
 have HL:=Vh hl
 have HT:=Vh hT
 have HS:=Vh hS
 have HA:=Vh hA
 have HM:=Vh hm
 have HN:=Vh hn
 have HB:=Vh hB
 have HC:=Vh hC
 have HQ:=Vh hq
 have HV:=Vh hV
 have N0:=Vh h0
 have gn:(n:Int)≤1000:=by omega
 clear hl hT hS hA hm hn hB hC hq hV oq h0
 go_enter Tryz.func120,Tryz.ntmps120
 try dsimp only [List.append]
 go_wp2_with fail
 go_loopw [8] (fun i wr=>∃(j:Nat) (be':Nat) (A':Option Addr) (cap':Nat),j≤n∧i=.int .i64 j∧wr.heap[q]? =some (.cells (C.setIfInBounds o (.slice A' (xs.length+j) cap')) T (0,0))∧Vof 12 184 Ms.enc wr q be' A' cap' (xs++ms.take j)∧Chg [q,be] w wr∧(be'=be∨w.heap.size≤be')) (fun i _=>n-(intOf i).toNat)
 case atStart=>
  refine ⟨0,be,A,cap,by omega,rfl,?_,by simpa using HV.out,Chg.refl _ _,.inl rfl⟩
  rw [Nat.add_zero,setSame HC.out]
  exact HQ.out
 case round=>
  obtain ⟨j,be',A',cap',hj,rfl,hq,hV,hc,hb⟩:=hrel
  by_cases hlt:j<n
  ·have g1:(j:Int)<(n:Int):=by omega
   have g0:(0:Int)≤(j:Int):=by omega
   obtain ⟨b1,o1,rfl⟩:=HS.out.addr (by omega)
   obtain ⟨m,hy⟩:∃m,ms[j]? =some m:=⟨ms[j]'Cz12,List.getElem?_eq_getElem _⟩
   obtain ⟨c1,t1,f1,hb1,i1,p1⟩:=ms_whole HS.out hc (HA.out _ rfl) hlt hy
   have hx:xs++ms.take (j+1)=(xs++ms.take j)++[m]:=by
    rw [List.take_succ_eq_append_getElem (by rw [←HN.out];exact hlt:j<ms.length),List.append_assoc,show ms[j]'Cz12=m from (Vg hy).2]
   have hlx:(xs++ms.take j).length=xs.length+j:=by rw [List.length_append,List.length_take,←HN.out,Nat.min_eq_left hj]
   have hmm:=HM.out m (List.mem_of_getElem? hy)
   have ob':be'<wr.heap.size:=(hV.old (old hq)).lt
   have hpush:=fun w1 (c:Chg [] wr w1)=>qpush_ok T (C.setIfInBounds o (.slice A' (xs.length+j) cap')) q o be' A' cap' (xs++ms.take j) m w1 (c.keep hq (by simp)) (by rw [hlx];exact set_this HC.out) (by rw [hlx];have:=HL.out;omega) (hV.keep c (by simp)) ((HT.out.keep hc N0.out).keep c (by simp)) hmm
   have HP:=Vh hpush
   have HX:=Vh hx
   have HCW:=Vh hc
   have HBB:=Vh hb
   have HHX:=Vh hlx
   have NX:=Vh (show wr.heap.size∉[q,be'] by have h1:=(old hq).lt;simp;omega)
   clear hy hpush hx hmm hc hb hlx
   have r0:(wr.alloc (.cells (msc m) 184)).heap[wr.heap.size]? =some (.cells (msc m) 184 (0,0)):=by simp
   have C0:=Vh ((Chg.refl [] wr).alloc (.cells (msc m) 184))
   go_wp2_with fail
   generalize wr.alloc (.cells (msc m) 184)=w1 at r0 C0 ⊢
   go_region_held3 (fun w'=>w'.heap[wr.heap.size]? =some (.cells (msc m) 184 (0,0))) (first |exact c2.keep r0 NX.out|exact r0)
    (first |(go_at_call 156;refine (HP.out _ C0.out.drew).mono ?_;rintro e w' ⟨rfl,be2,A2,cap2,h1,h2,c2,h3⟩))
   have HR:=Vh h1
   clear r0 h1
   go_wp2_with fail
   go_roundw
   case rel=>
    have h1:=HR.out
    rw [set_twice,List.length_append,HHX.out] at h1
    have c3:=(C0.out.drew.mono (l':=[q,be']) (by simp)).trans c2
    have hq0:=OQ.out.lt
    have hsz:=HCW.out.size
    refine ⟨j+1,be2,A2,cap2,by omega,by go_num,h1,by rw [HX.out];exact h2,?_,?_⟩
    ·refine HCW.out.trans' c3 ?_
     intro y hy
     simp only [List.mem_cons,Vn,or_false] at hy
     rcases hy with rfl|rfl
     ·simp
     ·rcases HBB.out with h|h
      ·left;rw [h];simp
      ·exact .inr h
    ·have:=C0.out.size
     have h4:=HBB.out
     have h5:w1.drew.heap.size=w1.heap.size:=rfl
     omega
   case measure=>simp [intOf];omega
  ·obtain rfl:j=n:=by omega
   have HQ9:=Vh hq
   have HV9:=Vh hV
   have HC9:=Vh hc
   clear hq hV hc
   go_wp2_with fail
   refine bodyPost_ret (results_none rfl _ _ _) rfl ?_
   have e1:ms.take j=ms:=by rw [HN.out,List.take_length]
   refine ⟨rfl,be',A',cap',?_,?_,HC9.out,hb⟩
   ·rw [List.length_append,←HN.out];exact HQ9.out
   ·have:=HV9.out
    rw [e1] at this
    exact this
section
variable {P:Program} {t ty e:TypeId} {k bytes:Nat} {z:Value} {α:Type} {enc:α→List Value}
theorem clone_le (E:Elt P t e k bytes z enc) (w:World) (e0:Addr) (A:Option Addr) (n c:Nat) (xs:List α) (h:Sl w k A n (cat enc xs)) (hn:xs.length=n) (hB:n*bytes≤140737488355328) (h63:n≤maxLen):
 ∃(A':Option Addr) (c':Nat) (w':World),appR P t ty #[.slice (some e0) 0 0,.slice A n c] w=.ok (.slice A' n c') w'∧Sl w' k A' n (cat enc xs)∧Chg [] w w'∧n≤c':=by
 obtain ⟨i0,hi0,hz0,hz1,hz2⟩:=info_parts E.info
 subst hz1
 subst hz2
 rcases Nat.eq_zero_or_pos n with h0|h0
 ·subst h0
  obtain rfl:xs=[]:=List.eq_nil_of_length_eq_zero hn
  exact ⟨_,_,_,Qea E.slice hi0 w e0 A c,⟨by simp [cat],.inl rfl⟩,Chg.refl _ _,Nat.le_refl _⟩
 ·refine ⟨_,_,_,Qcl E.slice hi0 hz0 w e0 A n c _ h h0 h63 hB,⟨h.1,.inr ⟨w.heap.size,0,(cat enc xs++(Builtin.zeroCells z.cells (grownCap w n 0 e-n)).toList).toArray,e,(0,0),rfl,?_,?_⟩⟩,(Chg.refl _ _).drew.alloc _,grownCap_ge w n 0 e⟩
  ·rw [heap_alloc]
   have h2:w.drew.heap[w.heap.size]? =none:=Array.getElem?_eq_none (Nat.le_refl _)
   have h3:w.heap.size=w.drew.heap.size:=rfl
   rw [h2,if_pos h3]
   rfl
  rw [List.drop_zero,List.toList_toArray,List.take_append_of_le_length (by rw [h.1];exact Nat.le_refl _),List.take_of_length_le (by rw [h.1];exact Nat.le_refl _)]
end
theorem sclone_le (A:Option Addr) (n c:Nat) (xs:List Ms) (w:World) (h:Sl w 12 A n (cat Ms.enc xs)) (hn:xs.length=n) (hn2:n≤100000):
 Calls Tryz.prog 179 #[.slice A n c] w fun e w'=>∃A' c',e=.returned (.slice A' n c')∧Sl w' 12 A' n (cat Ms.enc xs)∧Chg [] w w'∧n≤c':=by
 have hq:=fun w A=>Lib.run_eql_slice_nil (P:=Tryz.prog) w 141 184 A n c 0 0 Tryz.underlying141
 cases A with
 |none=>
  have h0:n=0:=by
   rcases h.2 with h0|⟨b,o,c,t,f,he,_⟩
   ·exact h0
   ·cases he
  have HS:=Vh h
  have H0:=Vh h0
  clear h h0
  go_enter Tryz.func179,Tryz.ntmps179
  go_wp2
  go_ret
  refine ⟨none,0,by rw [H0.out];rfl,HS.out,Chg.refl _ _,by rw [H0.out];exact Nat.zero_le _⟩
 |some a=>
  obtain ⟨A',c',w2,happ,hs2,hc2,hle⟩:=clone_le (ty:=141) eltMsg (w.alloc (.cells #[] 184)) ⟨w.heap.size,0,none⟩ (some a) n c xs (h.chg ((Chg.refl [] w).alloc _) (by simp)) hn (by omega) Cz14
  have HS2:=Vh hs2
  have HC2:=Vh (((Chg.refl [] w).alloc (.cells #[] 184)).trans hc2)
  have HLE:=Vh hle
  clear h hs2 hc2 hn hle
  go_enter Tryz.func179,Tryz.ntmps179
  go_wp2
  go_ret
  exact ⟨A',c',rfl,HS2.out,HC2.out,HLE.out⟩
theorem app_none (w:World) (A:Option Addr) (n c:Nat) (h:n≤c):appR Tryz.prog 141 141 #[.slice A n c,.slice none 0 0] w=.ok (.slice A n c) w:=by
 obtain ⟨i0,hi0,hz0,hz1,hz2⟩:=info_parts eltMsg.info
 cases A<;>simp [appR,Builtin.append_,run_underlying eltMsg.slice,sizeOf,typeInfo,hi0,Builtin.lenOf,Builtin.firstCells,loadCells,storeCells,h]
theorem zall_ok (T:TypeId) (C:Array Value) (q o be:Nat) (A:Option Addr) (cap:Nat) (xs:List Ms) (w:World) (hq:w.heap[q]? =some (.cells C T (0,0))) (hC:C[o]? =some (.slice A xs.length cap)) (hB:C[o+1]? =some (.slice none 0 0)) (hl:xs.length≤1000) (hV:Vof 12 184 Ms.enc w q be A cap xs):
 Calls Tryz.prog 94 #[.pointer (some ⟨q,o,none⟩)] w fun e w'=>∃A' c',e=.returned (.slice A' xs.length c')∧Sl w' 12 A' xs.length (cat Ms.enc xs)∧Chg [] w w':=by
 have HS:=Vh (hV.sl Ms.len)
 have HL:=Vh hl
 have oq:=old hq
 have hall:∀w1,Chg [] w w1→Calls Tryz.prog 128 #[.pointer (some ⟨q,o,none⟩)] w1 fun e w'=>∃A' c',e=.returned (.slice A' xs.length c')∧Sl w' 12 A' xs.length (cat Ms.enc xs)∧Chg [] w1 w'∧xs.length≤c':=by
  intro w1 c1
  have hq1:=c1.keep hq (by simp)
  have HS1:=Vh (HS.out.chg c1 (by simp))
  clear hV hq hB c1
  go_enter Tryz.func128,Tryz.ntmps128
  try dsimp only [List.append]
  go_wp2_with (go_at_call 179;refine (sclone_le A xs.length cap xs w1 HS1.out rfl (by have:=HL.out;omega)).mono ?_;rintro e w' ⟨A',c',rfl,hs,hc,hle⟩)
  go_ret
  exact ⟨A',c',rfl,hs,hc,hle⟩
 have HA:=Vh hall
 generalize hn:xs.length=n at *
 clear hall hV
 go_enter Tryz.func94,Tryz.ntmps94
 try dsimp only [List.append]
 go_wp2_with fail
 go_region_held3 (fun w'=>w'.heap[q]? =some (.cells C T (0,0))) (first |exact c2.keep hq Vn|exact hq)
  (first |(go_at_call 128;refine (HA.out _ (Chg.refl [] w).drew).mono ?_;rintro e w' ⟨A',c',rfl,hs,c2,hle⟩;have happ:=fun W=>app_none W A' n c' hle))
 all_goals
  go_wp2_with fail
  go_ret
  exact ⟨A',c',rfl,hs,(Chg.refl [] w).drew.trans c2⟩
end
end Go.Proofs.YtlidfghgjjffaaaGreatDoor
