/- Texts of the walk, one behind the other: Sba Sbb Mfj Word Wordb Mfk Mga. No condition. -/
import Derived.Test.YtcjoinhngdfdmaaGreatDoorCLaa
import Derived.Test.YtcjoinhngdfdmaaGreatDoorCLak
import Derived.BigQuiet
import Derived.Deep.Cut
import Derived.Deep.CutBlock
import Derived.Deep.CutRange
import Derived.Deep.DeepCutAuto
import Derived.Deep.QuietTactic
import Derived.Deep.RegionHeld3
import Derived.Deep.RegionLaw
import Derived.Deep.RegionWith
import Derived.Lib.Hide
import Derived.Test.YtcjoinhngdfdmaaGreatDoorChecked
import Derived.WalkKit
namespace Go.Proofs.YtcjoinhngdfdmaaGreatDoor
open Go.RowKit
set_option linter.unusedVariables false
section
set_option maxHeartbeats 1000000
theorem wideSe:Wide Tryz.prog 112 5:=⟨⟨_,Tryz.underlying112,by rfl⟩,by kernel_rfl⟩
theorem loadSe (x:Value):Instr.loadAt 112 x=loadS 112 5 x:=rfl
theorem storeSe (x y:Value):Instr.storeAt 112 x y=storeS 112 5 x y:=rfl
theorem loadBuf (x:Value):Instr.loadAt 157 x=loadS 157 83 x:=rfl
theorem storeBuf (x y:Value):Instr.storeAt 157 x y=storeS 157 83 x y:=rfl
theorem zbuf (w:World):(zeroValue 157).run Tryz.prog w=.ok (.agg (bfc 0 ringZ 0 0)) w:=by kernel_rfl
theorem bfc_setRoom (room:Int):(bfc 0 ringZ 0 0).setIfInBounds 0 (.int .i64 room)=bfc room ringZ 0 0:=by simp [bfc]
theorem bfc_ne (room:Int) (r:Ring) (f c:Nat):(bfc room r f c=#[])=False:=by
 simp only [eq_iff_iff,iff_false]
 intro h
 have:=congrArg Array.size h
 rw [bfc_size] at this
 cases this
theorem quiet_same12 {P:Program} {f:FuncId} {args:Array Value} {w:World} {n:Nat} {v:Value} (h:Calls P f args (w.drewN n) fun e w'=>e=.returned v∧w.drewN n=w'):Calls P f args (w.drewN n) fun e w''=>e=.returned v∧∃m,w''=w.drewN m:=
 h.mono fun _ _ ⟨he,hm⟩=>⟨he,n,hm.symm⟩
attribute [local go_sem ↓] append_appS copy_copS clear_clrS make_mkS cell_row frozen_row loadSe storeSe loadBuf storeBuf heap_drew heap_drewN heap_alloc heap_past heap_setCell heap_putRow sec_kd sec_li sec_wo sec_va sec_sn bfc_room bfc_first bfc_count
attribute [local go_sem] rowCell_some rowFrozen_some rowHas_some rowIn_some rowPart_full rowPut_full rowSet_some wideSe run_loadS run_storeS run_appS run_copS run_clrS run_mkS loadW_at storeW_at fit_all fit_le fit_pl one_int one_bool one_pointer one_slice allOne_list putRow_new ne_size1 ne_size2 sec_size sec_one sec_lit sec_z sec_ne sec_set0 sec_set1 sec_set2 sec_set3 seZ_kd seZ_li seZ_wo seZ_va seZ_sn bfc_size bfc_setFirst bfc_setCount bfc_has bfc_part bfc_put bfc_sent
attribute [local simp ↓] heap_drew heap_drewN heap_alloc heap_past heap_setCell heap_putRow
attribute [local simp] rowCell_some rowFrozen_some rowHas_some rowIn_some rowPart_full rowPut_full rowSet_some fit_all fit_pl putRow_new ne_size1 ne_size2 sec_size bfc_size bfc_setFirst bfc_setCount bfc_has bfc_put bfc_sent
attribute [local go_sem ↓] zbuf
attribute [local go_sem] bfc_setRoom bfc_ne
theorem swithin_any (n a b:Int) (w:World):Calls Tryz.prog 74 #[.int .i64 n,.int .i64 a,.int .i64 b] w fun e w'=>e=.returned (.bool (within12 n a b))∧w=w':=by
 unfold within12
 cases h1:decide (a≤n)
 ·go_enter Tryz.func74,Tryz.ntmps74
  go_wp2
  go_ret
  exact ⟨rfl,rfl⟩
 ·go_enter Tryz.func74,Tryz.ntmps74
  go_wp2
  go_ret
  exact ⟨rfl,rfl⟩
theorem snew_ok (room:Int) (w:World) (h:within12 room 1 16=true):Calls Tryz.prog 37 #[.int .i64 room] w fun e w'=>e=.returned (.tuple #[.pointer (some ⟨w.heap.size,0,none⟩),.int .i64 0])∧w'=w.alloc (.cells (bfc room ringZ 0 0) 157):=by
 go_enter Tryz.func37,Tryz.ntmps37
 go_wp2_with (go_at_call 74;refine (swithin_any _ _ _ _).mono ?_;rintro e w' ⟨rfl,rfl⟩)
 go_ret2
 exact ⟨rfl,rfl⟩
theorem slen_nil (w:World):Calls Tryz.prog 76 #[.pointer none] w fun e w'=>e=.returned (.int .i64 0)∧w=w':=by
 go_enter Tryz.func76,Tryz.ntmps76
 go_wp2
 go_ret
 exact ⟨rfl,rfl⟩
theorem slen_at {w:World} {q:Nat} {room:Int} {r:Ring} {f c:Nat} (hq:w.heap[q]? =some (.cells (bfc room r f c) 157 (0,0))):Calls Tryz.prog 76 #[.pointer (some ⟨q,0,none⟩)] w fun e w'=>e=.returned (.int .i64 c)∧w=w':=by
 go_enter Tryz.func76,Tryz.ntmps76
 go_wp2
 go_ret
 exact ⟨rfl,rfl⟩
theorem splace_at {w:World} {q:Nat} {room:Int} {r:Ring} {f c n:Nat} (hf:f<16) (hn:n≤1000) (hq:w.heap[q]? =some (.cells (bfc room r f c) 157 (0,0))):Calls Tryz.prog 124 #[.pointer (some ⟨q,0,none⟩),.int .i64 n] w fun e w'=>e=.returned (.int .i64 (pl f n))∧w=w':=by
 have g1:(f:Int)<16:=by omega
 have g2:(n:Int)≤1000:=by omega
 go_enter Tryz.func124,Tryz.ntmps124
 go_wp2
 go_ret
 exact ⟨by rw [show ((f:Int)+n) % 16=((pl f n:Nat):Int) by unfold pl;omega];rfl,rfl⟩
theorem sat_at {w:World} {q:Nat} {room:Int} {r:Ring} {f c n:Nat} (hf:f<16) (hn:n≤1000) (hq:w.heap[q]? =some (.cells (bfc room r f c) 157 (0,0))):Calls Tryz.prog 77 #[.pointer (some ⟨q,0,none⟩),.int .i64 n] w fun e w'=>e=.returned (.pointer (some ⟨q,1+pl f n*5,none⟩))∧∃m,w'=w.drewN m:=by
 have HF:=Lib.hid hf
 have HN:=Lib.hid hn
 have HQ:=Lib.hid hq
 have g1:((pl f n:Nat):Int)<16:=by have:=pl_lt f n;omega
 have g0:(0:Int)≤((pl f n:Nat):Int):=by omega
 clear hf hn
 go_enter Tryz.func77,Tryz.ntmps77
 go_wp2_with fail
 go_quiet (first |(go_at_call 124;exact quiet_same12 (splace_at HF.out HN.out HQ.out)))
 go_wp2
 go_ret
 exact ⟨rfl,_,rfl⟩
theorem sat_c {w:World} {q:Nat} {room:Int} {r:Ring} {f c n:Nat} (hf:f<16) (hn:n≤1000) (hq:w.heap[q]? =some (.cells (bfc room r f c) 157 (0,0))):Calls Tryz.prog 77 #[.pointer (some ⟨q,0,none⟩),.int .i64 n] w fun e w'=>e=.returned (.pointer (some ⟨q,1+pl f n*5,none⟩))∧Chg [] w w':=
 (sat_at hf hn hq).mono fun _ _ ⟨he,m,hm⟩=>⟨he,hm▸(Chg.refl [] w).drewN m⟩
theorem sgood_any (e:Se) (w:World):Calls Tryz.prog 174 #[.agg (sec e)] w fun v w'=>v=.returned (.bool (goodSe e))∧Chg [] w w':=by
 cases h1:within12 e.li 0 63
 ·rw [show goodSe e=false by simp [goodSe,h1]]
  go_enter Tryz.func174,Tryz.ntmps174
  go_wp2_with (go_at_call 74;refine (swithin_any _ _ _ _).mono ?_;rintro e w' ⟨rfl,rfl⟩)
  go_ret
  exact ⟨rfl,(Chg.refl _ _).alloc _⟩
 cases h2:e.sn
 case true=>
  rw [show goodSe e=false by simp [goodSe,h2]]
  go_enter Tryz.func174,Tryz.ntmps174
  go_wp2_with (go_at_call 74;refine (swithin_any _ _ _ _).mono ?_;rintro e w' ⟨rfl,rfl⟩)
  go_ret
  exact ⟨rfl,(Chg.refl _ _).alloc _⟩
 by_cases k9:e.kd=9
 ·rw [show goodSe e=within12 e.wo 0 7 by simp [goodSe,h1,h2,k9]]
  have t9:(e.kd==9)=true:=by simp [k9]
  clear k9
  go_enter Tryz.func174,Tryz.ntmps174
  go_wp2_with (go_at_call 74;refine (swithin_any _ _ _ _).mono ?_;rintro e w' ⟨rfl,rfl⟩)
  go_ret
  exact ⟨rfl,(Chg.refl _ _).alloc _⟩
 have t9:(e.kd==9)=false:=by simpa using k9
 by_cases k3:e.kd=12∨e.kd=13∨e.kd=14
 ·rw [show goodSe e=(e.wo==0&&e.va==0) by
   rcases k3 with k|k|k<;>simp [goodSe,h1,h2,k]]
  have h3:(e.kd==12)=true∨(e.kd==12)=false∧(e.kd==13)=true∨(e.kd==12)=false∧(e.kd==13)=false∧(e.kd==14)=true:=by
   rcases k3 with k|k|k<;>simp [k]
  clear k3 k9
  rcases h3 with t|⟨t,u⟩|⟨t,u,v⟩
  all_goals
   cases h4:(e.wo==0)
   ·go_enter Tryz.func174,Tryz.ntmps174
    go_wp2_with (go_at_call 74;refine (swithin_any _ _ _ _).mono ?_;rintro e w' ⟨rfl,rfl⟩)
    go_ret
    exact ⟨rfl,(Chg.refl _ _).alloc _⟩
   ·go_enter Tryz.func174,Tryz.ntmps174
    go_wp2_with (go_at_call 74;refine (swithin_any _ _ _ _).mono ?_;rintro e w' ⟨rfl,rfl⟩)
    go_ret
    exact ⟨rfl,(Chg.refl _ _).alloc _⟩
 have ⟨t12,t13,t14⟩:(e.kd==12)=false∧(e.kd==13)=false∧(e.kd==14)=false:=by simpa using k3
 rw [show goodSe e=false by simp [goodSe,t9,t12,t13,t14]]
 clear k3 k9
 go_enter Tryz.func174,Tryz.ntmps174
 go_wp2_with (go_at_call 74;refine (swithin_any _ _ _ _).mono ?_;rintro e w' ⟨rfl,rfl⟩)
 go_ret
 exact ⟨rfl,(Chg.refl _ _).alloc _⟩
theorem results_se2 {fn:Func} {p t:Tmp} (h:fn.results=#[.cell p 112,.tmp t]) (tmps:Array Value) (w:World) (b:Nat) (s:Se) (fr:Nat×Nat)
 (hp:tmps.getD p undef=.pointer (some ⟨b,0,none⟩)) (hb:w.heap[b]? =some (.cells (sec s) 112 fr)) (x:Value) (hx:tmps.getD t undef=x):
 (results fn tmps).run Tryz.prog w=.ok (.tuple #[.agg (sec s),x]) w:=by
 subst hx
 have hp':tmps[p]?.getD undef=.pointer (some ⟨b,0,none⟩):=by simpa using hp
 have:=run_loadVar_row (P:=Tryz.prog) w b 112 112 (sec s) fr _ hb Tryz.underlying112 rfl (by rw [sec_size];kernel_rfl)
 simp [results,h,hp',asAddr,this]
def Buf (w:World) (q room:Nat) (es:List Se):Prop:=
 ∃(r:Ring) (f:Nat),w.heap[q]? =some (.cells (bfc room r f es.length) 157 (0,0))∧f<16∧(∀n e,es[n]? =some e→r.get (pl f n)=e)∧es.length≤room∧1≤room∧room≤16
theorem Buf.keep {w w':World} {q room:Nat} {es:List Se} {l:List Nat} (h:Buf w q room es) (hc:Chg l w w') (hq:q∉l):Buf w' q room es:=by
 obtain ⟨r,f,h1,h2⟩:=h
 exact ⟨r,f,hc.keep h1 hq,h2⟩
theorem Buf.oldq {w:World} {q room:Nat} {es:List Se} (h:Buf w q room es):Old w q:=by
 obtain ⟨r,f,h1,h2⟩:=h
 exact old h1
theorem Buf.le {w:World} {q room:Nat} {es:List Se} (h:Buf w q room es):es.length≤room∧1≤room∧room≤16:=by
 obtain ⟨r,f,_,_,_,h2⟩:=h
 exact h2
theorem snew_buf (room:Nat) (w:World) (h1:1≤room) (h2:room≤16):Calls Tryz.prog 37 #[.int .i64 room] w fun e w'=>∃q,e=.returned (.tuple #[.pointer (some ⟨q,0,none⟩),.int .i64 0])∧w.heap.size≤q∧Chg [] w w'∧Buf w' q room []:=
 (snew_ok room w (by simp [within12];omega)).mono fun _ _ ⟨he,hw⟩=>by
  subst hw
  exact ⟨w.heap.size,he,Nat.le_refl _,(Chg.refl _ _).alloc _,ringZ,0,by simp,by omega,by simp,by simp,h1,h2⟩
theorem slen_ok {w:World} {q room:Nat} {es:List Se} (h:Buf w q room es):Calls Tryz.prog 76 #[.pointer (some ⟨q,0,none⟩)] w fun e w'=>e=.returned (.int .i64 es.length)∧w=w':=by
 obtain ⟨r,f,h1,_⟩:=h
 exact slen_at h1
def BufTo (w:World) (q room:Nat) (es:List Se) (v:Value) (e:Ending) (w':World):Prop:=e=.returned v∧Chg [q] w w'∧Buf w' q room es
theorem ring_push {r:Ring} {f:Nat} {es:List Se} {x:Se} (h:∀n e,es[n]? =some e→r.get (pl f n)=e) (hl:es.length<16):∀n e,(es++[x])[n]? =some e→(r.put (pl f es.length) x).get (pl f n)=e:=by
 intro n e hn
 rcases Nat.lt_trichotomy n es.length with h1|h1|h1
 ·rw [List.getElem?_append_left h1] at hn
  rw [Ring.put_other _ (Ne.symm (pl_ne h1 (by omega)))]
  exact h n e hn
 ·subst h1
  simp at hn
  rw [Ring.put_same _ (pl_lt _ _),hn]
 ·rw [List.getElem?_eq_none (by simp;omega)] at hn
  cases hn
theorem spush_ok {w:World} {q room:Nat} {es:List Se} (x:Se) (hb:Buf w q room es):Calls Tryz.prog 139 #[.pointer (some ⟨q,0,none⟩),.agg (sec x)] w (BufTo w q room (sbE room es x) (.int .i64 (sbV room es x))):=by
 have HB:=Lib.hid hb
 have oq:=hb.oldq
 clear hb
 have hx:(w.alloc (.cells (sec x) 112)).heap[w.heap.size]? =some (.cells (sec x) 112 (0,0)):=by simp
 have HC:=Lib.hid ((Chg.refl [] w).alloc (.cells (sec x) 112))
 have ON:=Lib.hid (show w.heap.size≠q from by have:=oq.lt;omega)
 cases hg:goodSe x
 ·rw [show sbE room es x=es by simp [sbE,hg],show sbV room es x=11 by simp [sbV,hg]]
  go_enter Tryz.func139,Tryz.ntmps139
  go_wp2_with fail
  refine (sgood_any x _).mono ?_
  rintro e w1 ⟨rfl,c1⟩
  rw [hg]
  go_wp2_with fail
  go_ret
  have:=HC.out.trans c1
  exact ⟨rfl,this.mono (by simp),HB.out.keep this (by simp)⟩
 by_cases hr:room≤es.length
 ·rw [show sbE room es x=es by simp [sbE,hg,hr],show sbV room es x=13 by simp [sbV,hg,hr]]
  have t3:decide (room≤es.length)=true:=by simpa using hr
  clear hr
  go_enter Tryz.func139,Tryz.ntmps139
  go_wp2_with fail
  refine (sgood_any x _).mono ?_
  rintro e w1 ⟨rfl,c1⟩
  rw [hg]
  have HC1:=Lib.hid (HC.out.trans c1)
  obtain ⟨r,f,hq,_⟩:=HB.out.keep HC1.out (by simp)
  clear c1
  go_wp2_with fail
  go_quiet (fail)
  go_wp2_with fail
  go_ret
  have:=HC1.out.drewN nq
  exact ⟨rfl,this.mono (by simp),HB.out.keep this (by simp)⟩
 ·rw [show sbE room es x=es++[x] by simp [sbE,hg,hr],show sbV room es x=0 by simp [sbV,hg,hr]]
  have t3:decide (room≤es.length)=false:=by simpa using hr
  have HR:=Lib.hid hr
  clear hr
  go_enter Tryz.func139,Tryz.ntmps139
  go_wp2_with fail
  refine (sgood_any x _).mono ?_
  rintro e w1 ⟨rfl,c1⟩
  rw [hg]
  have hx1:=c1.keep hx (by simp)
  have HC1:=Lib.hid (HC.out.trans c1)
  clear c1 hx
  generalize w.heap.size=p at hx1 ON ⊢
  obtain ⟨r,f,hq,hf,hall,hle⟩:=HB.out.keep HC1.out (by simp)
  have HF:=Lib.hid hf
  have HA:=Lib.hid hall
  have HL:=Lib.hid hle
  have hn:es.length≤1000:=by omega
  have g2:(es.length:Int)≤1000:=by omega
  have HN:=Lib.hid hn
  clear hf hall hle hn
  go_wp2_with fail
  go_quiet (fail)
  go_wp2_with fail
  have c2:=(Chg.refl [] w1).drewN nq
  have hq2:=c2.keep hq (by simp)
  have hx2:=c2.keep hx1 (by simp)
  have HC2:=Lib.hid (HC1.out.trans c2)
  clear hq hx1 c2
  generalize w1.drewN nq=w2 at hq2 hx2 HC2 ⊢
  have oq2:=old hq2
  have ox2:=old hx2
  go_region_law
   (first |(go_simp;go_at_call 77;refine (sat_c HF.out HN.out ((Chg.refl [] w2).drew.keep hq2 (by simp))).mono ?_;rintro e w3 ⟨rfl,c3⟩;have hq3:=(((Chg.refl [] w2).drew).trans c3).keep hq2 (by simp);have hx3:=(((Chg.refl [] w2).drew).trans c3).keep hx2 (by simp)))
  all_goals
   have hq4:(putRow w3 q (1+pl f es.length*5) (sec x)).heap[q]? =some (.cells (bfc room (r.put (pl f es.length) x) f es.length) 157 (0,0)):=by
    rw [heap_putRow _ _ _ _ _ (by rw [hq3,sec_size];exact bfc_has _ _ _ _ _ _),if_pos rfl,hq3,bfc_put]
   have HC4:=Lib.hid (((HC2.out.trans (((Chg.refl [] w2).drew).trans c3)).mono (l':=[q]) (by simp)).putRow q (1+pl f es.length*5) (sec x) (.inl (by simp)))
   clear hq2 hx2 hq3 hx3 c3 ox2 oq2
   generalize putRow w3 q (1+pl f es.length*5) (sec x)=w4 at hq4 HC4 ⊢
   go_wp2_with fail
   go_ret
   refine ⟨rfl,HC4.out.setCell _ _ _ (.inl (by simp)),r.put (pl f es.length) x,f,?_,HF.out,ring_push HA.out (by have:=HR.out;have:=HL.out;omega),?_,HL.out.2.1,HL.out.2.2⟩
   ·rw [heap_setCell,if_pos rfl,hq4,rowSet_some]
    have:=bfc_setCount room (r.put (pl f es.length) x) f es.length (es.length+1)
    rw [show ((es.length:Int)+1)=((es.length+1:Nat):Int) by omega,this,List.length_append]
    rfl
   ·have:=HR.out
    rw [List.length_append]
    simp only [List.length_cons,List.length_nil]
    omega
theorem shead_nil (w:World):Calls Tryz.prog 49 #[.pointer none] w fun e w'=>e=.returned (.tuple #[.agg (sec seZ),.bool false])∧Chg [] w w':=by
 go_enter Tryz.func49,Tryz.ntmps49
 go_wp2_with (go_at_call 76;refine (slen_nil _).mono ?_;rintro e w' ⟨rfl,rfl⟩)
 refine bodyPost_ret (v:=.tuple #[.agg (sec seZ),.bool false]) ?_ (by rfl) ?_
 ·exact results_se2 (by rfl) _ _ w.heap.size seZ (0,0) (by rfl) (by simp [*];try rfl) _ (by rfl)
 exact ⟨rfl,(Chg.refl _ _).alloc _⟩
theorem shead_ok {w:World} {q room:Nat} {es:List Se} (hb:Buf w q room es):Calls Tryz.prog 49 #[.pointer (some ⟨q,0,none⟩)] w fun e w'=>e=.returned (.tuple #[.agg (sec (hdE es)),.bool (hdB es)])∧Chg [] w w':=by
 have HB:=Lib.hid (hb.keep ((Chg.refl [] w).alloc (.cells (sec seZ) 112)) (by simp))
 have oq:=hb.oldq
 clear hb
 rcases es with _|⟨x,es⟩
 ·go_enter Tryz.func49,Tryz.ntmps49
  go_wp2_with (go_at_call 76;refine (slen_ok HB.out).mono ?_;rintro e w' ⟨rfl,rfl⟩)
  refine bodyPost_ret (v:=.tuple #[.agg (sec seZ),.bool false]) ?_ (by rfl) ?_
  ·exact results_se2 (by rfl) _ _ w.heap.size seZ (0,0) (by rfl) (by simp [*];try rfl) _ (by rfl)
  exact ⟨rfl,(Chg.refl _ _).alloc _⟩
 ·have t0:(((x::es).length:Int)==0)=false:=by simp;omega
  generalize hes:x::es=ys at HB t0
  have HE:=Lib.hid (show ys[0]? =some x by rw [←hes];rfl)
  have hx:(w.alloc (.cells (sec seZ) 112)).heap[w.heap.size]? =some (.cells (sec seZ) 112 (0,0)):=by simp
  have HC:=Lib.hid ((Chg.refl [] w).alloc (.cells (sec seZ) 112))
  rw [show hdE ys=x by rw [←hes];rfl,show hdB ys=true by rw [←hes];rfl]
  clear hes
  go_enter Tryz.func49,Tryz.ntmps49
  go_wp2_with fail
  generalize hp:w.heap.size=p at hx ⊢
  have HP:=Lib.hid hp
  clear hp
  generalize w.alloc (.cells (sec seZ) 112)=w1 at HB hx HC ⊢
  refine (slen_ok HB.out).mono ?_
  rintro e w' ⟨rfl,rfl⟩
  go_wp2_with fail
  obtain ⟨r,f,hq,hf,hall,_⟩:=HB.out
  refine (sat_c (n:=0) hf (by omega) hq).mono ?_
  rintro e w2 ⟨rfl,c2⟩
  have hg:=hall 0 x HE.out
  have hq2:=c2.keep hq (by simp)
  have hx2:=c2.keep hx (by simp)
  have HC2:=Lib.hid (HC.out.trans c2)
  have oq2:=old hq2
  have ox2:=old hx2
  have hpart:=bfc_part room r f ys.length 157 (0,0) 0
  rw [hg] at hpart
  clear hq hx c2 hall hf hg
  go_wp2_with fail
  refine bodyPost_ret (v:=.tuple #[.agg (sec x),.bool true]) ?_ (by rfl) ?_
  ·exact results_se2 (by rfl) _ _ p x (0,0) (by rfl) (by simp [*];try rfl) _ (by rfl)
  exact ⟨rfl,HC2.out.putRow _ _ _ (.inr (by have:=HP.out;omega))⟩
end
section
set_option maxHeartbeats 1000000
attribute [local go_sem ↓] append_appS copy_copS clear_clrS make_mkS cell_row frozen_row loadSe storeSe loadBuf storeBuf heap_drew heap_drewN heap_alloc heap_past heap_setCell heap_putRow sec_kd sec_li sec_wo sec_va sec_sn bfc_room bfc_first bfc_count
attribute [local go_sem] rowCell_some rowFrozen_some rowHas_some rowIn_some rowPart_full rowPut_full rowSet_some wideSe run_loadS run_storeS run_appS run_copS run_clrS run_mkS loadW_at storeW_at fit_all fit_le fit_pl one_int one_bool one_pointer one_slice allOne_list putRow_new ne_size1 ne_size2 sec_size sec_one sec_lit sec_z sec_ne sec_set0 sec_set1 sec_set2 sec_set3 seZ_kd seZ_li seZ_wo seZ_va seZ_sn bfc_size bfc_setFirst bfc_setCount bfc_has bfc_part bfc_put bfc_sent
attribute [local simp ↓] heap_drew heap_drewN heap_alloc heap_past heap_setCell heap_putRow
attribute [local simp] rowCell_some rowFrozen_some rowHas_some rowIn_some rowPart_full rowPut_full rowSet_some fit_all fit_pl putRow_new ne_size1 ne_size2 sec_size bfc_size bfc_setFirst bfc_setCount bfc_has bfc_put bfc_sent
attribute [local go_sem ↓] zbuf
attribute [local go_sem] bfc_setRoom bfc_ne
theorem ring_pop {r:Ring} {f:Nat} {x:Se} {es:List Se} (h:∀n e,(x::es)[n]? =some e→r.get (pl f n)=e) (hl:(x::es).length≤16):∀n e,es[n]? =some e→(r.put (pl f 0) seZ).get (pl (pl f 1) n)=e:=by
 intro n e hn
 have h1:=(List.getElem?_eq_some_iff.1 hn).1
 simp only [List.length_cons] at hl
 rw [pl_next,Ring.put_other _ (pl_ne (by omega) (by omega))]
 exact h (n+1) e (by simpa using hn)
theorem spop_nil (w:World):Calls Tryz.prog 89 #[.pointer none] w fun e w'=>e=.returned (.tuple #[.agg (sec seZ),.bool false])∧Chg [] w w':=by
 go_enter Tryz.func89,Tryz.ntmps89
 go_wp2_with fail
 have hx:(w.alloc (.cells (sec seZ) 112)).heap[w.heap.size]? =some (.cells (sec seZ) 112 (0,0)):=by simp
 have HC:=Lib.hid ((Chg.refl [] w).alloc (.cells (sec seZ) 112))
 generalize hp:w.heap.size=p at hx ⊢
 have HP:=Lib.hid hp
 clear hp
 generalize w.alloc (.cells (sec seZ) 112)=w1 at hx HC ⊢
 refine (shead_nil w1).mono ?_
 rintro e w2 ⟨rfl,c2⟩
 have hx2:=c2.keep hx (by simp)
 have ox2:=old hx2
 have HC2:=Lib.hid (HC.out.trans c2)
 clear hx c2
 go_wp2_with fail
 refine bodyPost_ret (v:=.tuple #[.agg (sec seZ),.bool false]) ?_ (by rfl) ?_
 ·exact results_se2 (by rfl) _ _ p seZ (0,0) (by rfl) (by simp [*];try rfl) _ (by rfl)
 exact ⟨rfl,(HC2.out.alloc _).putRow _ _ _ (.inr (by have:=HP.out;omega))⟩
theorem spop_ok {w:World} {q room:Nat} {es:List Se} (hb:Buf w q room es):Calls Tryz.prog 89 #[.pointer (some ⟨q,0,none⟩)] w (BufTo w q room es.tail (.tuple #[.agg (sec (hdE es)),.bool (hdB es)])):=by
 have HB:=Lib.hid (hb.keep ((Chg.refl [] w).alloc (.cells (sec seZ) 112)) (by simp))
 have oq:=hb.oldq
 clear hb
 have hx:(w.alloc (.cells (sec seZ) 112)).heap[w.heap.size]? =some (.cells (sec seZ) 112 (0,0)):=by simp
 have HC:=Lib.hid ((Chg.refl [] w).alloc (.cells (sec seZ) 112))
 have HPQ:=Lib.hid (show w.heap.size≠q from by have:=oq.lt;omega)
 go_enter Tryz.func89,Tryz.ntmps89
 go_wp2_with fail
 generalize hp:w.heap.size=p at hx HPQ ⊢
 have HP:=Lib.hid hp
 clear hp
 generalize w.alloc (.cells (sec seZ) 112)=w1 at HB hx HC ⊢
 refine (shead_ok HB.out).mono ?_
 rintro e w2 ⟨rfl,c2⟩
 have hx2:=c2.keep hx (by simp)
 have ox2:=old hx2
 have HC2:=Lib.hid (HC.out.trans c2)
 have HB2:=Lib.hid (HB.out.keep c2 (by simp))
 have oq2:=HB2.out.oldq
 clear hx c2 HB
 rcases es with _|⟨x,es⟩
 ·rw [show hdE []=seZ from rfl,show hdB []=false from rfl]
  go_wp2_with fail
  refine bodyPost_ret (v:=.tuple #[.agg (sec seZ),.bool false]) ?_ (by rfl) ?_
  ·exact results_se2 (by rfl) _ _ p seZ (0,0) (by rfl) (by simp [*];try rfl) _ (by rfl)
  have hc:=((Chg.refl [] w2).alloc (.cells (sec seZ) 112))
  have hc2:Chg [p] (w2.alloc (.cells (sec seZ) 112)) (putRow (w2.alloc (.cells (sec seZ) 112)) p 0 (sec seZ)):=(Chg.refl _ _).putRow _ _ _ (.inl (by simp))
  refine ⟨rfl,(((HC2.out.trans hc).mono (l':=[q]) (by simp)).putRow _ _ _ (.inr (by have:=HP.out;omega))),(HB2.out.keep hc (by simp)).keep hc2 (by simpa using Ne.symm HPQ.out)⟩
 ·rw [show hdE (x::es)=x from rfl,show hdB (x::es)=true from rfl,show (x::es).tail=es from rfl]
  have hy:(w2.alloc (.cells (sec x) 112)).heap[w2.heap.size]? =some (.cells (sec x) 112 (0,0)):=by simp
  have c3:=(Chg.refl [] w2).alloc (.cells (sec x) 112)
  have hx3:=c3.keep hx2 (by simp)
  have HB3:=Lib.hid (HB2.out.keep c3 (by simp))
  have HC3:=Lib.hid (HC2.out.trans c3)
  have HPY:=Lib.hid (show w2.heap.size≠p from by have:=ox2.lt;omega)
  have HQY:=Lib.hid (show w2.heap.size≠q from by have:=oq2.lt;omega)
  clear hx2 c3 HB2 HC2
  go_wp2_with fail
  generalize w2.heap.size=y at hy HPY HQY ⊢
  generalize w2.alloc (.cells (sec x) 112)=w3 at hx3 hy HB3 HC3 ⊢
  obtain ⟨r,f,hq,hf,hall,hle⟩:=HB3.out
  have HF:=Lib.hid hf
  have HA:=Lib.hid (ring_pop hall (by omega))
  have HL:=Lib.hid hle
  clear hf hall hle
  refine (sat_c (n:=0) HF.out (by omega) hq).mono ?_
  rintro e w4 ⟨rfl,c4⟩
  have hq4:=c4.keep hq (by simp)
  have hx4:=c4.keep hx3 (by simp)
  have hy4:=c4.keep hy (by simp)
  have HC4:=Lib.hid (HC3.out.trans c4)
  have oq4:=old hq4
  have ox4:=old hx4
  have oy4:=old hy4
  clear hq hx3 hy c4
  go_wp2_with fail
  have c5:Chg [q] w4 (putRow w4 q (1+pl f 0*5) (sec seZ)):=(Chg.refl [q] w4).putRow _ _ _ (.inl (by simp))
  have hq5:(putRow w4 q (1+pl f 0*5) (sec seZ)).heap[q]? =some (.cells (bfc room (r.put (pl f 0) seZ) f (x::es).length) 157 (0,0)):=by
   rw [heap_putRow _ _ _ _ _ (by rw [hq4,sec_size];exact bfc_has _ _ _ _ _ _),if_pos rfl,hq4,bfc_put]
  have hx5:=c5.keep hx4 (by simpa using HPQ.out)
  have hy5:=c5.keep hy4 (by simpa using HQY.out)
  have HC5:=Lib.hid ((HC4.out.mono (l':=[q]) (by simp)).trans c5)
  clear hq4 hx4 hy4 c5 oq4 ox4 oy4
  generalize putRow w4 q (1+pl f 0*5) (sec seZ)=w5 at hq5 hx5 hy5 HC5 ⊢
  refine (splace_at (n:=1) HF.out (by omega) hq5).mono ?_
  rintro e w6 ⟨rfl,rfl⟩
  have oq5:=old hq5
  have ox5:=old hx5
  have oy5:=old hy5
  have ne1:(p=q)=False:=eq_false HPQ.out
  have ne2:(y=q)=False:=eq_false HQY.out
  have ne3:(y=p)=False:=eq_false HPY.out
  have hlen:(((x::es).length:Int)-1)=((es.length:Nat):Int):=by simp
  have hlb:(((x::es).length:Nat):Int)≤16:=by have:=HL.out;omega
  have hlb0:(1:Int)≤(((x::es).length:Nat):Int):=by rw [List.length_cons];omega
  have HLE:=Lib.hid (show es.length≤(x::es).length by simp)
  generalize (x::es).length=m at hq5 hlen hlb hlb0 HL HLE ⊢
  go_wp2_with fail
  have h6:((w5.setCell ⟨q,81,none⟩ (.int .i64 (pl f 1))).setCell ⟨q,82,none⟩ (.int .i64 es.length)).heap[q]? =some (.cells (bfc room (r.put (pl f 0) seZ) (pl f 1) es.length) 157 (0,0)):=by
   rw [heap_setCell,if_pos rfl,heap_setCell,if_pos rfl,hq5,rowSet_some,rowSet_some,bfc_setFirst,bfc_setCount]
  have c6:Chg [q] w5 ((w5.setCell ⟨q,81,none⟩ (.int .i64 (pl f 1))).setCell ⟨q,82,none⟩ (.int .i64 es.length)):=((Chg.refl [q] w5).setCell _ _ _ (.inl (by simp))).setCell _ _ _ (.inl (by simp))
  have hx6:=c6.keep hx5 (by simpa using HPQ.out)
  generalize (w5.setCell ⟨q,81,none⟩ (.int .i64 (pl f 1))).setCell ⟨q,82,none⟩ (.int .i64 es.length)=w6 at h6 c6 hx6 ⊢
  have c7:Chg [p] w6 (putRow w6 p 0 (sec x)):=(Chg.refl [p] w6).putRow _ _ _ (.inl (by simp))
  refine bodyPost_ret (v:=.tuple #[.agg (sec x),.bool true]) ?_ (by rfl) ?_
  ·exact results_se2 (by rfl) _ _ p x (0,0) (by rfl) (by simp [hx6];try rfl) _ (by rfl)
  refine ⟨rfl,(HC5.out.trans c6).trans' c7 (by have:=HP.out;simp;omega),r.put (pl f 0) seZ,pl f 1,c7.keep h6 (by simpa using Ne.symm HPQ.out),pl_lt _ _,HA.out,by have:=HL.out;have:=HLE.out;show es.length≤room;omega,HL.out.2.1,HL.out.2.2⟩
theorem ring_send {r:Ring} {f:Nat} {x:Se} {es:List Se} (h:∀n e,(x::es)[n]? =some e→r.get (pl f n)=e) (hl:(x::es).length≤16):∀n e,(sent x::es)[n]? =some e→(r.put (pl f 0) (sent (r.get (pl f 0)))).get (pl f n)=e:=by
 intro n e hn
 have h0:=h 0 x rfl
 rcases n with _|n
 ·rw [Ring.put_same _ (pl_lt _ _),h0]
  simpa [sent] using hn
 ·have h1:=(List.getElem?_eq_some_iff.1 hn).1
  simp only [List.length_cons] at hl h1
  rw [Ring.put_other _ (pl_ne (by omega) (by omega))]
  exact h (n+1) e (by simpa using hn)
theorem ssend_ok {w:World} {q room:Nat} {es:List Se} (hb:Buf w q room es):Calls Tryz.prog 92 #[.pointer (some ⟨q,0,none⟩)] w (BufTo w q room (sdE es) (.tuple #[])):=by
 have HB:=Lib.hid hb
 clear hb
 go_enter Tryz.func92,Tryz.ntmps92
 go_wp2_with fail
 refine (shead_ok HB.out).mono ?_
 rintro e w2 ⟨rfl,c2⟩
 have HB2:=Lib.hid (HB.out.keep c2 (by simp))
 have oq2:=HB2.out.oldq
 have HC2:=Lib.hid c2
 clear c2 HB
 rcases es with _|⟨x,es⟩
 ·rw [show hdE []=seZ from rfl,show hdB []=false from rfl]
  go_wp2_with fail
  go_end0
  have hc:=((Chg.refl [] w2).alloc (.cells (sec seZ) 112))
  exact ⟨rfl,(HC2.out.trans hc).mono (by simp),HB2.out.keep hc (by simp)⟩
 ·rw [show hdE (x::es)=x from rfl,show hdB (x::es)=true from rfl]
  by_cases h14:x.kd=14
  ·have HS:=Lib.hid (show sdE (x::es)=sent x::es by simp [sdE,h14])
   have t14:(x.kd==14)=true:=by simp [h14]
   have hy:(w2.alloc (.cells (sec x) 112)).heap[w2.heap.size]? =some (.cells (sec x) 112 (0,0)):=by simp
   have c3:=(Chg.refl [] w2).alloc (.cells (sec x) 112)
   have HB3:=Lib.hid (HB2.out.keep c3 (by simp))
   have HC3:=Lib.hid (HC2.out.trans c3)
   clear c3 HB2 HC2 h14
   go_wp2_with fail
   generalize w2.heap.size=y at hy ⊢
   generalize w2.alloc (.cells (sec x) 112)=w3 at hy HB3 HC3 ⊢
   obtain ⟨r,f,hq,hf,hall,hle⟩:=HB3.out
   have HF:=Lib.hid hf
   have HA:=Lib.hid (ring_send hall (by omega))
   have HL:=Lib.hid hle
   clear hf hall hle hy
   refine (sat_c (n:=0) HF.out (by omega) hq).mono ?_
   rintro e w4 ⟨rfl,c4⟩
   have hq4:=c4.keep hq (by simp)
   have HC4:=Lib.hid (HC3.out.trans c4)
   have oq4:=old hq4
   clear hq c4
   generalize hm:(x::es).length=m at hq4 HL
   have HM:=Lib.hid (show (sent x::es).length=m from hm)
   clear hm
   have h83:(bfc room r f m)[1+pl f 0*5+4]? =some (.bool (r.get (pl f 0)).sn):=bfc_sn _ _ _ _ _
   go_wp2_with fail
   go_end0
   refine ⟨rfl,(HC4.out.mono (l':=[q]) (by simp)).setCell _ _ _ (.inl (by simp)),?_⟩
   rw [HS.out]
   refine ⟨r.put (pl f 0) (sent (r.get (pl f 0))),f,?_,HF.out,HA.out,by rw [HM.out];exact HL.out⟩
   rw [heap_setCell,if_pos rfl,hq4,bfc_sent,HM.out]
  ·have HS:=Lib.hid (show sdE (x::es)=x::es by simp [sdE,h14])
   have t14:(x.kd==14)=false:=by simpa using h14
   clear h14
   go_wp2_with fail
   go_end0
   have hc:=((Chg.refl [] w2).alloc (.cells (sec x) 112))
   exact ⟨rfl,(HC2.out.trans hc).mono (by simp),by rw [HS.out];exact HB2.out.keep hc (by simp)⟩
theorem sfind_ok {w:World} {q room:Nat} {es:List Se} (li wo:Int) (hb:Buf w q room es):Calls Tryz.prog 137 #[.pointer (some ⟨q,0,none⟩),.int .i64 li,.int .i64 wo] w fun e w'=>e=.returned (.tuple #[.int .u64 (fdV es li wo),.bool (fdB es li wo)])∧Chg [] w w':=by
 have HB:=Lib.hid hb
 have hl16:(es.length:Int)≤16:=by have:=hb.le;omega
 clear hb
 go_enter Tryz.func137,Tryz.ntmps137
 go_wp2_with (go_at_call 76;refine (slen_ok HB.out).mono ?_;rintro e w' ⟨rfl,rfl⟩)
 go_loopw [8] (fun x wr=>∃(k:Nat) (z:Int),k≤es.length∧z=(k:Int)-1∧x=.int .i64 z∧Chg [] w wr∧∀y∈es.drop k,isAt li wo y=false) (fun x _=>(intOf x+1).toNat)
 case atStart=>exact ⟨es.length,_,by omega,rfl,rfl,Chg.refl _ _,by simp⟩
 case round=>
  obtain ⟨k,z,hk,hz,rfl,hc,hno⟩:=hrel
  have HNO:=Lib.hid hno
  have HC:=Lib.hid hc
  clear hno hc
  rcases k with _|j
  ·obtain rfl:z= -1:=by omega
   clear hz
   have hn:fdO es li wo=none:=fdO_none (by simpa using HNO.out)
   have HH:=Lib.hid hn
   clear hn
   go_wp2_with fail
   go_ret2
   have hn:=HH.out
   exact ⟨by rw [show fdV es li wo=0 by simp [fdV,hn],show fdB es li wo=false by simp [fdB,hn]];rfl,HC.out⟩
  ·obtain rfl:z=(j:Int):=by omega
   clear hz
   obtain ⟨e,he⟩:∃e,es[j]? =some e:=⟨es[j],List.getElem?_eq_getElem hk⟩
   have HE:=Lib.hid he
   have g0:(0:Int)≤(j:Int):=by omega
   have g1:(j:Int)≤16:=by omega
   have HJ:=Lib.hid hk
   clear he hk
   obtain ⟨r,f,hq,hf,hall,hle⟩:=HB.out.keep HC.out (by simp)
   have hget:=hall j e HE.out
   have HF:=Lib.hid hf
   clear hall hle hf
   go_wp2_with fail
   refine (sat_c HF.out (by omega) hq).mono ?_
   rintro a w2 ⟨rfl,c2⟩
   have hq2:=c2.keep hq (by simp)
   have oq2:=old hq2
   have HC2:=Lib.hid (HC.out.trans c2)
   have b0:(bfc room r f es.length)[1+pl f j*5]? =some (.int .i64 e.kd):=hget▸bfc_kd _ _ _ _ _
   have b1:(bfc room r f es.length)[1+pl f j*5+1]? =some (.int .i64 e.li):=hget▸bfc_li _ _ _ _ _
   have b2:(bfc room r f es.length)[1+pl f j*5+2]? =some (.int .i64 e.wo):=hget▸bfc_wo _ _ _ _ _
   have b3:(bfc room r f es.length)[1+pl f j*5+3]? =some (.int .u64 e.va):=hget▸bfc_va _ _ _ _ _
   clear hq c2 hget
   cases hat:isAt li wo e
   ·have HN2:=Lib.hid (drop_all12 HE.out hat HNO.out)
    have hp:(e.kd==9)=false∨(e.kd==9)=true∧(e.li==li)=false∨(e.kd==9)=true∧(e.li==li)=true∧(e.wo==wo)=false:=by
     unfold isAt at hat
     cases h1:(e.kd==9)<;>cases h2:(e.li==li)<;>cases h3:(e.wo==wo)<;>simp_all
    clear hat
    rcases hp with t|⟨t,t1⟩|⟨t,t1,t2⟩
    all_goals
     go_wp2_with fail
     go_roundw
     case rel=>exact ⟨j,_,by have:=HJ.out;omega,rfl,rfl,HC2.out,HN2.out⟩
     case measure=>simp [intOf]
   ·have hn:fdO es li wo=some e:=fdO_some HE.out hat HNO.out
    have HH:=Lib.hid hn
    obtain ⟨t,t1,t2⟩:(e.kd==9)=true∧(e.li==li)=true∧(e.wo==wo)=true:=by simpa [isAt] using hat
    clear hn hat
    go_wp2_with fail
    go_ret2
    have hn:=HH.out
    exact ⟨by rw [show fdV es li wo=e.va by simp [fdV,hn],show fdB es li wo=true by simp [fdB,hn]];rfl,HC2.out⟩
theorem se_info:(Tryz.prog.info? 112).map (fun i=>(i.zero,i.size,i.bytes))=some (some sezV,5,40):=by kernel_rfl
theorem made_se (n:Nat):madeCells sezV.cells (n*5)=sq Se.enc (List.replicate n seZ) []:=by
 apply Array.ext
 ·rw [sq_size Se.len]
  simp [madeCells]
 ·intro k h1 h2
  have hk:k<n*5:=by simpa [madeCells] using h1
  obtain ⟨i,j,hj,rfl⟩:∃i j,j<5∧k=i*5+j:=⟨k / 5,k % 5,Nat.mod_lt _ (by omega),by omega⟩
  have hi:i<n:=by omega
  have h3:=sq_cell (enc:=Se.enc) Se.len (xs:=List.replicate n seZ) (i:=i) (a:=seZ) (by simp [hi]) [] j hj
  rw [Array.getElem?_eq_getElem h2] at h3
  have h5:j=0∨j=1∨j=2∨j=3∨j=4:=by omega
  have h6:(i*5+j) % 5=j:=by omega
  have h7:sezV.cells.size=5:=sezV_size
  apply Option.some.inj
  rw [h3]
  simp only [madeCells,Array.getElem_map,Array.getElem_range,h7,h6]
  rcases h5 with rfl|rfl|rfl|rfl|rfl<;>rfl
theorem run_make_se (w:World) (n:Nat) (hn:n≤1000):mkR Tryz.prog 39 (.int .i64 n) (.int .i64 n) w=.ok (.slice (some ⟨w.heap.size,0,none⟩) n n) (w.alloc (.cells (sq Se.enc (List.replicate n seZ) []) 112)):=by
 obtain ⟨i0,hi0,hz0,hz1,hz2⟩:=info_parts se_info
 have:=run_make (P:=Tryz.prog) w 39 112 i0 _ Tryz.underlying39 hi0 hz0 .i64 .i64 n n (by omega) (by omega) (by rw [hz2];omega) (by omega)
 simp only [Int.toNat_natCast,hz1] at this
 rw [←made_se]
 exact this
def fillE (es:List Se) (k:Nat):List Se:=es.take k++List.replicate (es.length-k) seZ
theorem fillE_zero (es:List Se):fillE es 0=List.replicate es.length seZ:=by simp [fillE]
theorem fillE_all (es:List Se):fillE es es.length=es:=by simp [fillE]
theorem fillE_length (es:List Se) (k:Nat) (h:k≤es.length):(fillE es k).length=es.length:=by simp [fillE];omega
theorem fillE_succ {es:List Se} {k:Nat} {e:Se} (h:es[k]? =some e):splice (fillE es k) k [e]=fillE es (k+1):=by
 obtain ⟨hk,rfl⟩:=List.getElem?_eq_some_iff.1 h
 unfold fillE splice
 have e1:(es.take k).length=k:=by simp;omega
 obtain ⟨m,hm⟩:∃m,es.length-k=m+1:=⟨es.length-k-1,by omega⟩
 rw [hm,show es.length-(k+1)=m by omega,List.take_append_of_le_length (by omega),List.take_of_length_le (by omega),List.take_succ_eq_append_getElem hk]
 rw [List.drop_append,List.drop_eq_nil_of_le (by rw [e1];simp),e1]
 simp
def SeTold (w:World) (es:List Se) (e:Ending) (w':World):Prop:=∃b,e=.returned (.slice (some ⟨b,0,none⟩) es.length es.length)∧w.heap.size≤b∧Chg [] w w'∧w'.heap[b]? =some (.cells (sq Se.enc es []) 112 (0,0))
theorem sall_ok {w:World} {q room:Nat} {es:List Se} (hb:Buf w q room es):Calls Tryz.prog 40 #[.pointer (some ⟨q,0,none⟩)] w (SeTold w es):=by
 have HB:=Lib.hid hb
 have oq:=hb.oldq
 have hl16:(es.length:Int)≤16:=by have:=hb.le;omega
 have hmk:=run_make_se w es.length (by omega)
 have c1:=(Chg.refl [] w).alloc (.cells (sq Se.enc (List.replicate es.length seZ) []) 112)
 have hb1:(w.alloc (.cells (sq Se.enc (List.replicate es.length seZ) []) 112)).heap[w.heap.size]? =some (.cells (sq Se.enc (List.replicate es.length seZ) []) 112 (0,0)):=by simp
 generalize w.alloc (.cells (sq Se.enc (List.replicate es.length seZ) []) 112)=w1 at hmk c1 hb1
 have HB1:=Lib.hid hb1
 have HC1:=Lib.hid c1
 have HN:=Lib.hid (show w.heap.size≠q by have:=oq.lt;omega)
 clear hb hb1 c1
 go_enter Tryz.func40,Tryz.ntmps40
 go_wp2_with (go_at_call 76;refine (slen_ok HB.out).mono ?_;rintro e w' ⟨rfl,rfl⟩)
 generalize hp:w.heap.size=p at HB1 HN
 have HP:=Lib.hid hp
 clear hp
 go_loopw [4,10] (fun _ i wr=>∃k:Nat,k≤es.length∧i=.int .i64 k∧Chg [p] w1 wr∧wr.heap[p]? =some (.cells (sq Se.enc (fillE es k) []) 112 (0,0))) (fun _ i _=>es.length-(intOf i).toNat)
 case atStart=>exact ⟨0,by omega,rfl,Chg.refl _ _,by rw [fillE_zero];exact HB1.out⟩
 case round=>
  obtain ⟨k,hk,rfl,hc,hb⟩:=hrel
  have HC:=Lib.hid hc
  have hb2:=(HB.out.keep HC1.out (by simp)).keep hc (by simpa using Ne.symm HN.out)
  by_cases hlt:k<es.length
  ·obtain ⟨e,he⟩:∃e,es[k]? =some e:=⟨es[k],List.getElem?_eq_getElem hlt⟩
   have HE:=Lib.hid he
   obtain ⟨r,f,hq,hf,hall,hle⟩:=hb2
   have hget:=hall k e he
   have HF:=Lib.hid hf
   have HLT:=Lib.hid hlt
   have g1:(k:Int)<(es.length:Int):=by omega
   have g0:(0:Int)≤(k:Int):=by omega
   have hpart:=bfc_part room r f es.length 157 (0,0) k
   rw [hget] at hpart
   clear hall hle hf hc he hlt hget
   go_wp2_with fail
   refine (sat_c HF.out (by omega) hq).mono ?_
   rintro a w2 ⟨rfl,c2⟩
   have hq2:=c2.keep hq (by simp)
   have hb3:=c2.keep hb (by simp)
   have HC2:=Lib.hid (HC.out.trans (c2.mono (by simp)))
   have oq2:=old hq2
   have ob2:=old hb3
   have hln:=fillE_length es k (by omega)
   have rh:rowHas (some (.cells (sq Se.enc (fillE es k) []) 112 (0,0))) (k*5) 5=true:=by
    rw [rowHas_some,sq_size Se.len,hln];exact decide_eq_true (show _≤_ by have:=HLT.out;simp;omega)
   have rf:Fit (k*5) 5 (sq Se.enc (fillE es k) []).size=True:=by
    rw [sq_size Se.len,hln];exact eq_true (show _≤_ by have:=HLT.out;simp;omega)
   have HR:=Lib.hid rh
   have HH:=Lib.hid hb3
   clear hq c2 hln hb
   go_wp2_with fail
   have h9:(putRow w2 p (k*5) (sec e)).heap[p]? =some (.cells (sq Se.enc (fillE es (k+1)) []) 112 (0,0)):=by
    rw [heap_putRow _ _ _ _ _ (by rw [HH.out,sec_size];exact HR.out),if_pos rfl,HH.out,rowPut_some,sq_toList,sec_enc,List.toList_toArray,List.append_nil,←cat_one (enc:=Se.enc) e,cat_splice Se.len,fillE_succ HE.out]
    simp [sq]
   go_roundw
   case rel=>exact ⟨k+1,by have:=HLT.out;omega,by go_num,HC2.out.putRow _ _ _ (.inl (by simp)),h9⟩
   case measure=>simp [intOf];omega
  ·have:k=es.length:=by omega
   subst this
   go_wp2_with fail
   go_ret
   rw [fillE_all] at hb
   exact ⟨p,rfl,by have:=HP.out;omega,HC1.out.trans' HC.out (by have:=HP.out;simp;omega),hb⟩
end
section
set_option maxHeartbeats 1000000
set_option maxRecDepth 100000
attribute [local go_sem ↓] append_appS copy_copS clear_clrS make_mkS cell_row frozen_row loadLine storeLine loadSlot storeSlot heap_drew heap_drewN heap_alloc heap_past heap_setCell heap_putRow slc_st slc_li slc_us slice_slS loadMsg storeMsg loadHas storeHas msc_kd msc_li msc_di msc_ke
attribute [local go_sem] rowCell_some rowFrozen_some rowHas_some rowIn_some rowPart_full rowPut_full rowSet_some vs_size vs_one wideLine wideSlot run_loadS run_storeS run_appS run_copS run_clrS run_mkS loadW_at storeW_at fit_all fit_le one_int one_bool one_pointer one_slice allOne_list putRow_new ne_size1 ne_size2 zero8_length lines_nil line_eq lit8 slc_size slc_one slc_part fold_slt fold_slc slc_set_us wideMsg wideHas run_slS msc_size msc_one msc_part fold_msc msc_putDi msc_putKe msc_putX ms4_lit
attribute [local simp ↓] heap_drew heap_drewN heap_alloc heap_past heap_setCell heap_putRow
attribute [local simp] rowCell_some rowFrozen_some rowHas_some rowIn_some rowPart_full rowPut_full rowSet_some vs_size fit_all putRow_new ne_size1 ne_size2 zero8_length slc_size msc_size msc_putDi msc_putKe msc_putX fit_le
attribute [local go_sem ↓] ec_he ec_di ec_ow ec_sh ec_bu ec_by ec_wa sc_to
attribute [local go_sem] mi_and mi_or mi_not mi_beq0 mi_bne0 ec_size ec_one ec_part ec_in ec_has ec_setDi ec_setOw ec_setSh ec_setBu ec_setBy ec_setWa ec_setSh0 ec_setWa0 ec_putM sc_size sc_one sc_part
attribute [local simp] ec_size sc_size ec_setDi ec_setOw ec_setSh ec_setBu ec_setBy ec_setWa ec_setSh0 ec_setWa0 ec_putM
attribute [local go_sem ↓] loadEn storeEn loadSd storeSd en_z0
attribute [local go_sem] wideEn wideSd fold_sc size11 putRow_newB putRow_newC ms5_lit
attribute [local simp] en_z0 putRow_newB putRow_newC fit_le ec_has
attribute [local go_sem ↓] mlitZ zenc_po zenc_en zenc_q
attribute [local simp] mlitZ
theorem mem_all {z:Lay} {L:List (Po×Pt)} {k:Nat}:k∈z.all L↔(k=z.sy∨k=z.q∨k=z.g∨k=z.b∨k=z.po∨k=z.en∨(k=z.be∧z.be≠z.q))∨k∈feet z.po L:=by
 unfold Lay.all Lay.base
 simp only [List.mem_append,List.mem_cons,List.not_mem_nil,or_false,mem_opt]
 simp only [or_assoc]
theorem msd_fresh {W w w':World} {c:Cg} {z:Lay} {es:List Ent} {xs:List Int} {C:Array Value} (he:∀po en:Nat,(C.setIfInBounds 8 (.slice (some ⟨po,0,none⟩) c.co c.co)).setIfInBounds 9 (.slice (some ⟨en,0,none⟩) c.li c.li)=(({z with po:=po,en:=en}:Lay).enc c).toArray) (hW:Chg [] W w) (hs:w.heap[z.sy]? =some (.cells C 91 (0,0))) (hsW:W.heap.size≤z.sy) (h6:z.ks.length=6)
 (hm:Sys W w z.q z.be z.g z.b c.li c.vo c.qu es xs) (hd:([z.sy,z.q,z.g,z.b]++opt z.q z.be).Nodup) (hf:Fresh W w c z.sy C w'):
 ∃po en L,Msd W w' c {z with po:=po,en:=en} L (List.replicate c.li enE) es xs∧ports L=List.replicate c.co (pt0 c)∧Chg [z.sy] w w'∧∀k∈({z with po:=po,en:=en}:Lay).all L,k∈[z.sy,z.q,z.g,z.b]++opt z.q z.be∨w.heap.size≤k:=by
 obtain ⟨po,en,L,h1,h2,h3,h4,h5,hp,hn,hl,hc⟩:=hf
 have hq:=hm.2.1.oldq.lt
 have hbe:=hm.2.1.olde.lt
 have hg:=hm.2.2.1.oldg
 have hb:=hm.2.2.1.oldb
 have hsy:=lt_heap hs
 have hWp:=hW.size
 have hmem:∀k∈({z with po:=po,en:=en}:Lay).all L,k∈[z.sy,z.q,z.g,z.b]++opt z.q z.be∨w.heap.size≤k:=by
  intro k hk
  rw [mem_all] at hk
  simp only [List.mem_append,List.mem_cons,List.not_mem_nil,or_false,mem_opt]
  dsimp only at hk
  rcases hk with (h|h|h|h|h|h|h)|h
  ·simp [h]
  ·simp [h]
  ·simp [h]
  ·simp [h]
  ·exact .inr (by rw [h];exact hl po (by simp))
  ·exact .inr (by rw [h];exact hl en (by simp))
  ·exact .inl (.inr h)
  ·exact .inr (hl k (by simp [h]))
 have n1:=(List.nodup_append.1 hd).1
 simp only [List.nodup_cons,List.mem_cons,List.not_mem_nil,or_false,not_or] at n1
 have n2:z.be≠z.sy:=by
  intro e
  by_cases hbq:z.be=z.q
  ·exact n1.1.1 (by rw [←e,hbq])
  ·exact (List.nodup_append.1 hd).2.2 z.sy (by simp) z.sy (mem_opt.2 ⟨e.symm,hbq⟩) rfl
 have hcw:=hW.trans' hc (fun x hx=>.inr (by rw [List.mem_singleton.1 hx];exact hsW))
 have hold:∀k∈[z.sy,z.q,z.g,z.b]++opt z.q z.be,k<w.heap.size:=by
  intro k hk
  simp only [List.mem_append,List.mem_cons,List.not_mem_nil,or_false,mem_opt] at hk
  rcases hk with (h|h|h|h)|h
  ·omega
  ·omega
  ·omega
  ·omega
  ·omega
 refine ⟨po,en,L,⟨hcw,by rw [h1,he],h6,⟨hcw,hm.2.1.keep hc (by simp;exact fun e=>n1.1.1 e.symm) (by simpa using n2),hm.2.2.1.keep hc (by simp;exact fun e=>n1.1.2.1 e.symm) (by simp;exact fun e=>n1.1.2.2 e.symm),hm.2.2.2⟩,h2,h3,h4,by simp,h5,?_,?_⟩,hp,hc,hmem⟩
 ·have e1:({z with po:=po,en:=en}:Lay).all L=[z.sy,z.q,z.g,z.b]++([po,en]++(opt z.q z.be++feet po L)):=by
   unfold Lay.all Lay.base;simp
  have e2:([z.sy,z.q,z.g,z.b]++([po,en]++(opt z.q z.be++feet po L))).Perm (([z.sy,z.q,z.g,z.b]++opt z.q z.be)++(po::en::feet po L)):=by
   rw [List.append_assoc]
   refine List.Perm.append_left _ ?_
   rw [←List.append_assoc]
   refine (List.Perm.append_right _ List.perm_append_comm).trans ?_
   rw [List.append_assoc]
   rfl
  rw [e1,e2.nodup_iff,List.nodup_append]
  refine ⟨hd,hn,fun a ha b hb e=>?_⟩
  have:=hold a ha
  have:=hl b hb
  omega
 ·intro k hk
  rcases hmem k hk with h|h
  ·have hn2:=hm.2.2.2.2
   simp only [List.mem_append,List.mem_cons,List.not_mem_nil,or_false,mem_opt] at h
   rcases h with (h|h|h|h)|h
   ·omega
   ·omega
   ·omega
   ·omega
   ·omega
  ·omega
section
variable {W:World} {c:Cg} {z:Lay} {L:List (Po×Pt)} {en:List En} {es:List Ent} {xs:List Int}
end
end
section
set_option maxRecDepth 100000
theorem wdwithin_yes (n a b:Int) (w:World) (h0:a≤n) (h1:n≤b):Calls Tryz.prog 67 #[.int .i64 n,.int .i64 a,.int .i64 b] w fun e w'=>e=.returned (.bool true)∧w=w':=by
 go_enter Tryz.func67,Tryz.ntmps67
 go_wp2
 go_ret
 exact ⟨rfl,rfl⟩
theorem wdwithin_no (n a b:Int) (w:World) (h0:¬(a≤n∧n≤b)):Calls Tryz.prog 67 #[.int .i64 n,.int .i64 a,.int .i64 b] w fun e w'=>e=.returned (.bool false)∧w=w':=by
 by_cases h:a≤n
 ·have h7:decide (n≤b)=false:=by simp;omega
  clear h0
  go_enter Tryz.func67,Tryz.ntmps67
  go_wp2
  go_ret
  exact ⟨rfl,rfl⟩
 ·have h7:decide (a≤n)=false:=by simp;omega
  clear h0
  go_enter Tryz.func67,Tryz.ntmps67
  go_wp2
  go_ret
  exact ⟨rfl,rfl⟩
theorem at_ok (n a:Int) (w:World) (h0:1≤n) (h1:n≤64) (g0:0≤a) (g1:a % 8=0) (g2:a / 64<n):Calls Tryz.prog 83 #[.int .i64 n,.int .u64 a] w fun e w'=>e=.returned (.tuple #[.int .i64 (a / 64),.int .i64 (a % 64 / 8),.int .i64 0])∧w=w':=by
 have g3:a<4096:=by omega
 have t1:(a % 8 !=0)=false:=by simp [g1]
 have t2:decide (n≤a / 64)=false:=by simp;omega
 clear g1
 go_enter Tryz.func83,Tryz.ntmps83
 go_wp2_with (go_at_call 67;refine (wdwithin_yes _ _ _ _ h0 h1).mono ?_;rintro e w' ⟨rfl,rfl⟩)
 go_ret3
 exact ⟨rfl,rfl⟩
theorem at_odd (n a:Int) (w:World) (h0:1≤n) (h1:n≤64) (g0:0≤a) (g1:a % 8≠0):Calls Tryz.prog 83 #[.int .i64 n,.int .u64 a] w fun e w'=>e=.returned (.tuple #[.int .i64 0,.int .i64 0,.int .i64 12])∧w=w':=by
 have t1:(a % 8 !=0)=true:=by simp [g1]
 clear g1
 go_enter Tryz.func83,Tryz.ntmps83
 go_wp2_with (go_at_call 67;refine (wdwithin_yes _ _ _ _ h0 h1).mono ?_;rintro e w' ⟨rfl,rfl⟩)
 go_ret3
 exact ⟨rfl,rfl⟩
end
section
set_option maxRecDepth 100000
theorem sets_yes (n:Int) (w:World) (h:n=1∨n=2∨n=4∨n=8):Calls Tryz.prog 68 #[.int .i64 n] w fun e w'=>e=.returned (.bool true)∧w=w':=by
 obtain rfl|rfl|rfl|rfl:=h
 all_goals
  go_enter Tryz.func68,Tryz.ntmps68
  go_wp2
  go_ret
  exact ⟨rfl,rfl⟩
theorem sets_no (n:Int) (w:World) (h:¬(n=1∨n=2∨n=4∨n=8)):Calls Tryz.prog 68 #[.int .i64 n] w fun e w'=>e=.returned (.bool false)∧w=w':=by
 have e1:(n==1)=false:=by simp;omega
 have e2:(n==2)=false:=by simp;omega
 have e3:(n==4)=false:=by simp;omega
 have e4:(n==8)=false:=by simp;omega
 clear h
 go_enter Tryz.func68,Tryz.ntmps68
 go_wp2
 go_ret
 exact ⟨rfl,rfl⟩
theorem good_0 (c0 c1 c2 c3 c4 c5 c6:Int) (w:World) (h:¬(1≤c0∧c0≤8)):Calls Tryz.prog 31 #[.agg #[.int .i64 c0,.int .i64 c1,.int .i64 c2,.int .i64 c3,.int .i64 c4,.int .i64 c5,.int .i64 c6]] w fun e w'=>e=.returned (.bool false)∧w'=w.alloc (.cells #[.int .i64 c0,.int .i64 c1,.int .i64 c2,.int .i64 c3,.int .i64 c4,.int .i64 c5,.int .i64 c6] 28):=by
 have H:=Lib.hid h
 clear h
 go_enter Tryz.func31,Tryz.ntmps31
 go_wp2_with (first
  |(go_at_call_of 67 (Value.int .i64 c0);refine (wdwithin_no _ _ _ _ H.out).mono ?_;rintro e w' ⟨rfl,rfl⟩))
 go_ret
 exact ⟨rfl,rfl⟩
theorem good_1 (c0 c1 c2 c3 c4 c5 c6:Int) (w:World) (p0:1≤c0) (q0:c0≤8) (h:¬(2≤c1∧c1≤64)):Calls Tryz.prog 31 #[.agg #[.int .i64 c0,.int .i64 c1,.int .i64 c2,.int .i64 c3,.int .i64 c4,.int .i64 c5,.int .i64 c6]] w fun e w'=>e=.returned (.bool false)∧w'=w.alloc (.cells #[.int .i64 c0,.int .i64 c1,.int .i64 c2,.int .i64 c3,.int .i64 c4,.int .i64 c5,.int .i64 c6] 28):=by
 have H:=Lib.hid h
 clear h
 go_enter Tryz.func31,Tryz.ntmps31
 go_wp2_with (first
  |(go_at_call_of 67 (Value.int .i64 c0);refine (wdwithin_yes _ _ _ _ p0 q0).mono ?_;rintro e w' ⟨rfl,rfl⟩)
  |(go_at_call_of 67 (Value.int .i64 c1);refine (wdwithin_no _ _ _ _ H.out).mono ?_;rintro e w' ⟨rfl,rfl⟩))
 go_ret
 exact ⟨rfl,rfl⟩
theorem good_2 (c0 c1 c2 c3 c4 c5 c6:Int) (w:World) (p0:1≤c0) (q0:c0≤8) (p1:2≤c1) (q1:c1≤64) (h:¬(1≤c2∧c2≤c1-1)):Calls Tryz.prog 31 #[.agg #[.int .i64 c0,.int .i64 c1,.int .i64 c2,.int .i64 c3,.int .i64 c4,.int .i64 c5,.int .i64 c6]] w fun e w'=>e=.returned (.bool false)∧w'=w.alloc (.cells #[.int .i64 c0,.int .i64 c1,.int .i64 c2,.int .i64 c3,.int .i64 c4,.int .i64 c5,.int .i64 c6] 28):=by
 have H:=Lib.hid h
 clear h
 go_enter Tryz.func31,Tryz.ntmps31
 go_wp2_with (first
  |(go_at_call_of 67 (Value.int .i64 c0);refine (wdwithin_yes _ _ _ _ p0 q0).mono ?_;rintro e w' ⟨rfl,rfl⟩)
  |(go_at_call_of 67 (Value.int .i64 c1);refine (wdwithin_yes _ _ _ _ p1 q1).mono ?_;rintro e w' ⟨rfl,rfl⟩)
  |(go_at_call_of 67 (Value.int .i64 c2);refine (wdwithin_no _ _ _ _ H.out).mono ?_;rintro e w' ⟨rfl,rfl⟩))
 go_ret
 exact ⟨rfl,rfl⟩
theorem good_3 (c0 c1 c2 c3 c4 c5 c6:Int) (w:World) (p0:1≤c0) (q0:c0≤8) (p1:2≤c1) (q1:c1≤64) (p2:1≤c2) (q2:c2≤c1-1) (h:¬(c3=1∨c3=2∨c3=4∨c3=8)):Calls Tryz.prog 31 #[.agg #[.int .i64 c0,.int .i64 c1,.int .i64 c2,.int .i64 c3,.int .i64 c4,.int .i64 c5,.int .i64 c6]] w fun e w'=>e=.returned (.bool false)∧w'=w.alloc (.cells #[.int .i64 c0,.int .i64 c1,.int .i64 c2,.int .i64 c3,.int .i64 c4,.int .i64 c5,.int .i64 c6] 28):=by
 have H:=Lib.hid h
 clear h
 go_enter Tryz.func31,Tryz.ntmps31
 go_wp2_with (first
  |(go_at_call_of 67 (Value.int .i64 c0);refine (wdwithin_yes _ _ _ _ p0 q0).mono ?_;rintro e w' ⟨rfl,rfl⟩)
  |(go_at_call_of 67 (Value.int .i64 c1);refine (wdwithin_yes _ _ _ _ p1 q1).mono ?_;rintro e w' ⟨rfl,rfl⟩)
  |(go_at_call_of 67 (Value.int .i64 c2);refine (wdwithin_yes _ _ _ _ p2 q2).mono ?_;rintro e w' ⟨rfl,rfl⟩)
  |(go_at_call 68;refine (sets_no _ _ H.out).mono ?_;rintro e w' ⟨rfl,rfl⟩))
 go_ret
 exact ⟨rfl,rfl⟩
theorem good_4 (c0 c1 c2 c3 c4 c5 c6:Int) (w:World) (p0:1≤c0) (q0:c0≤8) (p1:2≤c1) (q1:c1≤64) (p2:1≤c2) (q2:c2≤c1-1) (s:c3=1∨c3=2∨c3=4∨c3=8) (h:¬(1≤c4∧c4≤8)):Calls Tryz.prog 31 #[.agg #[.int .i64 c0,.int .i64 c1,.int .i64 c2,.int .i64 c3,.int .i64 c4,.int .i64 c5,.int .i64 c6]] w fun e w'=>e=.returned (.bool false)∧w'=w.alloc (.cells #[.int .i64 c0,.int .i64 c1,.int .i64 c2,.int .i64 c3,.int .i64 c4,.int .i64 c5,.int .i64 c6] 28):=by
 have H:=Lib.hid h
 clear h
 have S:=Lib.hid s
 clear s
 go_enter Tryz.func31,Tryz.ntmps31
 go_wp2_with (first
  |(go_at_call_of 67 (Value.int .i64 c0);refine (wdwithin_yes _ _ _ _ p0 q0).mono ?_;rintro e w' ⟨rfl,rfl⟩)
  |(go_at_call_of 67 (Value.int .i64 c1);refine (wdwithin_yes _ _ _ _ p1 q1).mono ?_;rintro e w' ⟨rfl,rfl⟩)
  |(go_at_call_of 67 (Value.int .i64 c2);refine (wdwithin_yes _ _ _ _ p2 q2).mono ?_;rintro e w' ⟨rfl,rfl⟩)
  |(go_at_call 68;refine (sets_yes _ _ S.out).mono ?_;rintro e w' ⟨rfl,rfl⟩)
  |(go_at_call_of 67 (Value.int .i64 c4);refine (wdwithin_no _ _ _ _ H.out).mono ?_;rintro e w' ⟨rfl,rfl⟩))
 go_ret
 exact ⟨rfl,rfl⟩
theorem good_5 (c0 c1 c2 c3 c4 c5 c6:Int) (w:World) (p0:1≤c0) (q0:c0≤8) (p1:2≤c1) (q1:c1≤64) (p2:1≤c2) (q2:c2≤c1-1) (s:c3=1∨c3=2∨c3=4∨c3=8) (p4:1≤c4) (q4:c4≤8) (h:¬(1≤c5∧c5≤16)):Calls Tryz.prog 31 #[.agg #[.int .i64 c0,.int .i64 c1,.int .i64 c2,.int .i64 c3,.int .i64 c4,.int .i64 c5,.int .i64 c6]] w fun e w'=>e=.returned (.bool false)∧w'=w.alloc (.cells #[.int .i64 c0,.int .i64 c1,.int .i64 c2,.int .i64 c3,.int .i64 c4,.int .i64 c5,.int .i64 c6] 28):=by
 have H:=Lib.hid h
 clear h
 have S:=Lib.hid s
 clear s
 go_enter Tryz.func31,Tryz.ntmps31
 go_wp2_with (first
  |(go_at_call_of 67 (Value.int .i64 c0);refine (wdwithin_yes _ _ _ _ p0 q0).mono ?_;rintro e w' ⟨rfl,rfl⟩)
  |(go_at_call_of 67 (Value.int .i64 c1);refine (wdwithin_yes _ _ _ _ p1 q1).mono ?_;rintro e w' ⟨rfl,rfl⟩)
  |(go_at_call_of 67 (Value.int .i64 c2);refine (wdwithin_yes _ _ _ _ p2 q2).mono ?_;rintro e w' ⟨rfl,rfl⟩)
  |(go_at_call 68;refine (sets_yes _ _ S.out).mono ?_;rintro e w' ⟨rfl,rfl⟩)
  |(go_at_call_of 67 (Value.int .i64 c4);refine (wdwithin_yes _ _ _ _ p4 q4).mono ?_;rintro e w' ⟨rfl,rfl⟩)
  |(go_at_call_of 67 (Value.int .i64 c5);refine (wdwithin_no _ _ _ _ H.out).mono ?_;rintro e w' ⟨rfl,rfl⟩))
 go_ret
 exact ⟨rfl,rfl⟩
theorem good_6 (c0 c1 c2 c3 c4 c5 c6:Int) (w:World) (p0:1≤c0) (q0:c0≤8) (p1:2≤c1) (q1:c1≤64) (p2:1≤c2) (q2:c2≤c1-1) (s:c3=1∨c3=2∨c3=4∨c3=8) (p4:1≤c4) (q4:c4≤8) (p5:1≤c5) (q5:c5≤16) (h:¬(1≤c6∧c6≤16)):Calls Tryz.prog 31 #[.agg #[.int .i64 c0,.int .i64 c1,.int .i64 c2,.int .i64 c3,.int .i64 c4,.int .i64 c5,.int .i64 c6]] w fun e w'=>e=.returned (.bool false)∧w'=w.alloc (.cells #[.int .i64 c0,.int .i64 c1,.int .i64 c2,.int .i64 c3,.int .i64 c4,.int .i64 c5,.int .i64 c6] 28):=by
 have H:=Lib.hid h
 clear h
 have S:=Lib.hid s
 clear s
 go_enter Tryz.func31,Tryz.ntmps31
 go_wp2_with (first
  |(go_at_call_of 67 (Value.int .i64 c0);refine (wdwithin_yes _ _ _ _ p0 q0).mono ?_;rintro e w' ⟨rfl,rfl⟩)
  |(go_at_call_of 67 (Value.int .i64 c1);refine (wdwithin_yes _ _ _ _ p1 q1).mono ?_;rintro e w' ⟨rfl,rfl⟩)
  |(go_at_call_of 67 (Value.int .i64 c2);refine (wdwithin_yes _ _ _ _ p2 q2).mono ?_;rintro e w' ⟨rfl,rfl⟩)
  |(go_at_call 68;refine (sets_yes _ _ S.out).mono ?_;rintro e w' ⟨rfl,rfl⟩)
  |(go_at_call_of 67 (Value.int .i64 c4);refine (wdwithin_yes _ _ _ _ p4 q4).mono ?_;rintro e w' ⟨rfl,rfl⟩)
  |(go_at_call_of 67 (Value.int .i64 c5);refine (wdwithin_yes _ _ _ _ p5 q5).mono ?_;rintro e w' ⟨rfl,rfl⟩)
  |(go_at_call_of 67 (Value.int .i64 c6);refine (wdwithin_no _ _ _ _ H.out).mono ?_;rintro e w' ⟨rfl,rfl⟩))
 go_ret
 exact ⟨rfl,rfl⟩
theorem good_7 (c0 c1 c2 c3 c4 c5 c6:Int) (w:World) (p0:1≤c0) (q0:c0≤8) (p1:2≤c1) (q1:c1≤64) (p2:1≤c2) (q2:c2≤c1-1) (s:c3=1∨c3=2∨c3=4∨c3=8) (p4:1≤c4) (q4:c4≤8) (p5:1≤c5) (q5:c5≤16) (p6:1≤c6) (q6:c6≤16):Calls Tryz.prog 31 #[.agg #[.int .i64 c0,.int .i64 c1,.int .i64 c2,.int .i64 c3,.int .i64 c4,.int .i64 c5,.int .i64 c6]] w fun e w'=>e=.returned (.bool true)∧w'=w.alloc (.cells #[.int .i64 c0,.int .i64 c1,.int .i64 c2,.int .i64 c3,.int .i64 c4,.int .i64 c5,.int .i64 c6] 28):=by
 have S:=Lib.hid s
 clear s
 go_enter Tryz.func31,Tryz.ntmps31
 go_wp2_with (first
  |(go_at_call_of 67 (Value.int .i64 c0);refine (wdwithin_yes _ _ _ _ p0 q0).mono ?_;rintro e w' ⟨rfl,rfl⟩)
  |(go_at_call_of 67 (Value.int .i64 c1);refine (wdwithin_yes _ _ _ _ p1 q1).mono ?_;rintro e w' ⟨rfl,rfl⟩)
  |(go_at_call_of 67 (Value.int .i64 c2);refine (wdwithin_yes _ _ _ _ p2 q2).mono ?_;rintro e w' ⟨rfl,rfl⟩)
  |(go_at_call 68;refine (sets_yes _ _ S.out).mono ?_;rintro e w' ⟨rfl,rfl⟩)
  |(go_at_call_of 67 (Value.int .i64 c4);refine (wdwithin_yes _ _ _ _ p4 q4).mono ?_;rintro e w' ⟨rfl,rfl⟩)
  |(go_at_call_of 67 (Value.int .i64 c5);refine (wdwithin_yes _ _ _ _ p5 q5).mono ?_;rintro e w' ⟨rfl,rfl⟩)
  |(go_at_call_of 67 (Value.int .i64 c6);refine (wdwithin_yes _ _ _ _ p6 q6).mono ?_;rintro e w' ⟨rfl,rfl⟩))
 go_ret
 exact ⟨rfl,rfl⟩
def goodB (c0 c1 c2 c3 c4 c5 c6:Int):Bool:=decide (1≤c0∧c0≤8∧2≤c1∧c1≤64∧1≤c2∧c2≤c1-1∧(c3=1∨c3=2∨c3=4∨c3=8)∧1≤c4∧c4≤8∧1≤c5∧c5≤16∧1≤c6∧c6≤16)
theorem good_any (c0 c1 c2 c3 c4 c5 c6:Int) (w:World):Calls Tryz.prog 31 #[.agg #[.int .i64 c0,.int .i64 c1,.int .i64 c2,.int .i64 c3,.int .i64 c4,.int .i64 c5,.int .i64 c6]] w fun e w'=>e=.returned (.bool (goodB c0 c1 c2 c3 c4 c5 c6))∧w'=w.alloc (.cells #[.int .i64 c0,.int .i64 c1,.int .i64 c2,.int .i64 c3,.int .i64 c4,.int .i64 c5,.int .i64 c6] 28):=by
 by_cases h0:1≤c0∧c0≤8
 rotate_left
 ·have e:goodB c0 c1 c2 c3 c4 c5 c6=false:=by unfold goodB;simp only [decide_eq_false_iff_not];omega
  rw [e];exact good_0 c0 c1 c2 c3 c4 c5 c6 w h0
 by_cases h1:2≤c1∧c1≤64
 rotate_left
 ·have e:goodB c0 c1 c2 c3 c4 c5 c6=false:=by unfold goodB;simp only [decide_eq_false_iff_not];omega
  rw [e];exact good_1 c0 c1 c2 c3 c4 c5 c6 w h0.1 h0.2 h1
 by_cases h2:1≤c2∧c2≤c1- 1
 rotate_left
 ·have e:goodB c0 c1 c2 c3 c4 c5 c6=false:=by unfold goodB;simp only [decide_eq_false_iff_not];omega
  rw [e];exact good_2 c0 c1 c2 c3 c4 c5 c6 w h0.1 h0.2 h1.1 h1.2 h2
 by_cases h3:c3=1∨c3=2∨c3=4∨c3=8
 rotate_left
 ·have e:goodB c0 c1 c2 c3 c4 c5 c6=false:=by unfold goodB;simp only [decide_eq_false_iff_not];omega
  rw [e];exact good_3 c0 c1 c2 c3 c4 c5 c6 w h0.1 h0.2 h1.1 h1.2 h2.1 h2.2 h3
 by_cases h4:1≤c4∧c4≤8
 rotate_left
 ·have e:goodB c0 c1 c2 c3 c4 c5 c6=false:=by unfold goodB;simp only [decide_eq_false_iff_not];omega
  rw [e];exact good_4 c0 c1 c2 c3 c4 c5 c6 w h0.1 h0.2 h1.1 h1.2 h2.1 h2.2 h3 h4
 by_cases h5:1≤c5∧c5≤16
 rotate_left
 ·have e:goodB c0 c1 c2 c3 c4 c5 c6=false:=by unfold goodB;simp only [decide_eq_false_iff_not];omega
  rw [e];exact good_5 c0 c1 c2 c3 c4 c5 c6 w h0.1 h0.2 h1.1 h1.2 h2.1 h2.2 h3 h4.1 h4.2 h5
 by_cases h6:1≤c6∧c6≤16
 rotate_left
 ·have e:goodB c0 c1 c2 c3 c4 c5 c6=false:=by unfold goodB;simp only [decide_eq_false_iff_not];omega
  rw [e];exact good_6 c0 c1 c2 c3 c4 c5 c6 w h0.1 h0.2 h1.1 h1.2 h2.1 h2.2 h3 h4.1 h4.2 h5.1 h5.2 h6
 have e:goodB c0 c1 c2 c3 c4 c5 c6=true:=by unfold goodB;simp only [decide_eq_true_eq];omega
 rw [e];exact good_7 c0 c1 c2 c3 c4 c5 c6 w h0.1 h0.2 h1.1 h1.2 h2.1 h2.2 h3 h4.1 h4.2 h5.1 h5.2 h6.1 h6.2
end
section
set_option maxHeartbeats 1000000
set_option maxRecDepth 100000
attribute [local go_sem ↓] append_appS copy_copS clear_clrS make_mkS cell_row frozen_row loadLine storeLine loadSlot storeSlot heap_drew heap_drewN heap_alloc heap_past heap_setCell heap_putRow slc_st slc_li slc_us slice_slS loadMsg storeMsg loadHas storeHas msc_kd msc_li msc_di msc_ke
attribute [local go_sem] rowCell_some rowFrozen_some rowHas_some rowIn_some rowPart_full rowPut_full rowSet_some vs_size vs_one wideLine wideSlot run_loadS run_storeS run_appS run_copS run_clrS run_mkS loadW_at storeW_at fit_all fit_le one_int one_bool one_pointer one_slice allOne_list putRow_new ne_size1 ne_size2 zero8_length lines_nil line_eq lit8 slc_size slc_one slc_part fold_slt fold_slc slc_set_us wideMsg wideHas run_slS msc_size msc_one msc_part fold_msc msc_putDi msc_putKe msc_putX ms4_lit
attribute [local simp ↓] heap_drew heap_drewN heap_alloc heap_past heap_setCell heap_putRow
attribute [local simp] rowCell_some rowFrozen_some rowHas_some rowIn_some rowPart_full rowPut_full rowSet_some vs_size fit_all putRow_new ne_size1 ne_size2 zero8_length slc_size msc_size msc_putDi msc_putKe msc_putX fit_le
attribute [local go_sem ↓] ec_he ec_di ec_ow ec_sh ec_bu ec_by ec_wa sc_to
attribute [local go_sem] mi_and mi_or mi_not mi_beq0 mi_bne0 ec_size ec_one ec_part ec_in ec_has ec_setDi ec_setOw ec_setSh ec_setBu ec_setBy ec_setWa ec_setSh0 ec_setWa0 ec_putM sc_size sc_one sc_part
attribute [local simp] ec_size sc_size ec_setDi ec_setOw ec_setSh ec_setBu ec_setBy ec_setWa ec_setSh0 ec_setWa0 ec_putM
attribute [local go_sem ↓] loadEn storeEn loadSd storeSd en_z0
attribute [local go_sem] wideEn wideSd fold_sc size11 putRow_newB putRow_newC ms5_lit
attribute [local simp] en_z0 putRow_newB putRow_newC fit_le ec_has
attribute [local go_sem ↓] mlitZ zenc_po zenc_en zenc_q
attribute [local simp] mlitZ
def Cg.cells (c:Cg):Array Value:=#[.int .i64 c.co,.int .i64 c.li,.int .i64 c.vo,.int .i64 c.se,.int .i64 c.wa,.int .i64 c.qu,.int .i64 c.st]
def MadeSys (W w:World) (c:Cg) (xs:List Int):Ending→World→Prop:=fun e w'=>∃z L,e=.returned (.tuple #[.pointer (some ⟨z.sy,0,none⟩),.int .i64 0])∧Msd W w' c z L (List.replicate c.li enE) [] xs∧ports L=List.replicate c.co (pt0 c)∧Chg [] w w'∧∀k∈z.all L,w.heap.size≤k
theorem good_ok (c:Cg) (hc:c.Ok):goodB c.co c.li c.vo c.se c.wa c.qu c.st=true:=by
 obtain ⟨h1,h2,h3,h4,h5,h6,h7,h8,h9,h10,h11⟩:=hc
 unfold goodNew at h7
 unfold goodB
 apply decide_eq_true
 omega
theorem zgood_at (c:Cg) (hc:c.Ok) (w:World):Calls Tryz.prog 31 #[.agg c.cells] w fun e w'=>e=.returned (.bool true)∧Chg [] w w':=
 (good_any c.co c.li c.vo c.se c.wa c.qu c.st w).mono fun e w' ⟨he,hw⟩=>⟨by rw [he,good_ok c hc],by subst hw;exact (Chg.refl [] w).alloc _⟩
theorem cg_size (c:Cg):c.cells.size=7:=rfl
theorem cg_one (c:Cg):allOne c.cells:=allOne_list _ rfl
theorem cg_li (c:Cg):c.cells[1]? =some (.int .i64 c.li):=rfl
theorem cg_vo (c:Cg):c.cells[2]? =some (.int .i64 c.vo):=rfl
theorem cg_qu (c:Cg):c.cells[5]? =some (.int .i64 c.qu):=rfl
def sysZ (c:Cg) (q:Option Nat):Array Value:=(c.enc++([.pointer (q.map fun k=>⟨k,0,none⟩),.slice none 0 0,.slice none 0 0]:List Value)++List.replicate 6 (Value.int .u64 0)).toArray
theorem fold_cg0 (c:Cg):Array.foldl (fun cs y=>cs.setIfInBounds (0+y.snd) y.fst) (#[.int .i64 0,.int .i64 0,.int .i64 0,.int .i64 0,.int .i64 0,.int .i64 0,.int .i64 0,.pointer none,.slice none 0 0,.slice none 0 0,.int .u64 0,.int .u64 0,.int .u64 0,.int .u64 0,.int .u64 0,.int .u64 0]:Array Value) c.cells.zipIdx 0 7=sysZ c none:=by
 rw [fold_put _ _ 0 7 rfl (by simp)]
 simp [splice,sysZ,Cg.cells,Cg.enc]
theorem fold_cg (c:Cg):Array.foldl (fun cs y=>cs.setIfInBounds y.snd y.fst) (#[.int .i64 0,.int .i64 0,.int .i64 0,.int .i64 0,.int .i64 0,.int .i64 0,.int .i64 0,.pointer none,.slice none 0 0,.slice none 0 0,.int .u64 0,.int .u64 0,.int .u64 0,.int .u64 0,.int .u64 0,.int .u64 0]:Array Value) c.cells.zipIdx 0 7=sysZ c none:=by
 have:=fold_cg0 c
 simp only [Nat.zero_add] at this
 exact this
theorem sysZ_put (c:Cg) (q:Nat):(sysZ c none).setIfInBounds 7 (.pointer (some ⟨q,0,none⟩))=sysZ c (some q):=rfl
theorem sysZ_size (c:Cg) (q:Option Nat):(sysZ c q).size=16:=rfl
theorem sysZ_enc (c:Cg) (q:Nat):∀z:Lay,z.q=q→z.ks=List.replicate 6 0→((sysZ c (some q)).setIfInBounds 8 (.slice (some ⟨z.po,0,none⟩) c.co c.co)).setIfInBounds 9 (.slice (some ⟨z.en,0,none⟩) c.li c.li)=(z.enc c).toArray:=by
 rintro z rfl h
 unfold Lay.enc sysZ
 rw [h]
 rfl
attribute [local go_sem] fold_cg fold_cg0 sysZ_put sysZ_size
theorem wideCg:Wide Tryz.prog 28 7:=⟨⟨_,Tryz.underlying28,by rfl⟩,by kernel_rfl⟩
theorem loadCg (x:Value):Instr.loadAt 28 x=loadS 28 7 x:=rfl
attribute [local go_sem ↓] loadCg cg_li cg_vo cg_qu
theorem cg_part (c:Cg) (t:TypeId) (f:Nat×Nat):rowPart (some (.cells c.cells t f)) 0 7=c.cells:=rowPart_full _ _ _ _ rfl
attribute [local go_sem] wideCg cg_size cg_one cg_part
theorem znew_none (W w:World) (c:Cg) (hc:c.Ok) (hW:Chg [] W w) (A:Option Addr) (nc:Nat):Calls Tryz.prog 10 #[.agg c.cells,.slice A 0 nc] w (MadeSys W w c (List.replicate (c.li*8) 0)):=by
 have HC:=Lib.hid hc
 have HW:=Lib.hid hW
 clear hc hW
 go_enter Tryz.func10,Tryz.ntmps10
 try dsimp only [List.append]
 go_wp2_with fail
 have r1:(w.alloc (.cells c.cells 28)).heap[w.heap.size]? =some (.cells c.cells 28 (0,0)):=by simp
 have C1:=Lib.hid ((Chg.refl [] w).alloc (.cells c.cells 28))
 refine (zgood_at c HC.out _).mono ?_
 rintro e w2 ⟨rfl,c2⟩
 replace r1:=c2.keep r1 List.not_mem_nil
 have o1:=old r1
 have C2:=Lib.hid (C1.out.trans c2)
 clear C1 c2
 generalize w.heap.size=b1 at r1 o1 ⊢
 go_wp2_with fail
 refine (new_ok c.li c.vo w2 HC.out.li2 HC.out.li64 HC.out.vo1 HC.out.vol).mono ?_
 rintro e w3 ⟨rfl,c3,hdev,hsz⟩
 replace r1:=c3.keep r1 List.not_mem_nil
 replace o1:=old r1
 have C3:=Lib.hid (C2.out.trans c3)
 have HD:=Lib.hid hdev
 have HL:=Lib.hid C2.out.size
 have HGB:=Lib.hid (show w.heap.size≤w2.heap.size+1∧w.heap.size≤w2.heap.size from ⟨by have:=C2.out.size;omega,C2.out.size⟩)
 generalize w2.heap.size+1=g at HD HGB ⊢
 generalize w2.heap.size=b at HD HL HGB
 clear c3 hsz
 have HG:=Lib.hid (show w.heap.size≤g∧w.heap.size≤b from HGB.out)
 go_wp2_with fail
 refine (wsys_new W c.li c.vo c.qu w3 g b _ (HW.out.trans C3.out) HD.out (Nat.le_trans HW.out.size HG.out.1) (Nat.le_trans HW.out.size HG.out.2) HC.out.qu1 HC.out.qu16).mono ?_
 rintro e w4 ⟨q,rfl,hsys,c4,hq⟩
 replace r1:=c4.keep r1 List.not_mem_nil
 replace o1:=old r1
 have HS4:=Lib.hid hsys
 have HQ:=Lib.hid hq
 have C4:=Lib.hid (C3.out.trans c4)
 clear hsys hq c4
 go_upto_region 9 with fail
 have rS:(w4.alloc (.cells (sysZ c (some q)) 91)).heap[w4.heap.size]? =some (.cells (sysZ c (some q)) 91 (0,0)):=new_blk _ _
 have K5:=Lib.hid ((Chg.refl [] w4).alloc (.cells (sysZ c (some q)) 91))
 have NS:=Lib.hid (Nat.le_refl w4.heap.size)
 have NQ:=Lib.hid (show q<w4.heap.size∧g<w4.heap.size∧b<w4.heap.size from ⟨HS4.out.2.1.oldq.lt,HS4.out.2.2.1.oldg,HS4.out.2.2.1.oldb⟩)
 have SY0:=Lib.hid C4.out.size
 have HSZ:=Lib.hid (show w4.heap.size≤(w4.alloc (.cells (sysZ c (some q)) 91)).heap.size by simp)
 generalize w4.heap.size=sy at rS NS NQ SY0 HSZ ⊢
 generalize w4.alloc (.cells (sysZ c (some q)) 91)=w5 at rS K5 HSZ ⊢
 have hf:=forget_ok W w5 c HC.out sy (sysZ c (some q)) ((HW.out.trans C4.out).trans K5.out) (Nat.le_trans HW.out.size SY0.out) rS rfl rfl rfl rfl _ _ rfl rfl
 have HF:=Lib.hid hf
 have HRS:=Lib.hid rS
 clear hf rS r1 o1
 go_wp2_with fail
 refine HF.out.mono ?_
 rintro e w6 ⟨rfl,hfr⟩
 have hS5:=HS4.out.keep K5.out
 have hap:=HS4.out.2.2.2.1
 have hgb:g≠b:=by obtain ⟨_,_,_,_,_,_,_,h⟩:=HS4.out.2.2.1;exact h
 have hnd:([sy,q,g,b]++opt q q).Nodup:=by
  have h1:=NQ.out
  obtain ⟨a1,a2,a3,a4⟩:=hap
  simp [opt]
  omega
 obtain ⟨po,en,L,hm,hp,hc6,hk6⟩:=msd_fresh (z:=⟨sy,q,q,g,b,0,0,List.replicate 6 0⟩) (fun po en=>sysZ_enc c q ⟨sy,q,q,g,b,po,en,List.replicate 6 0⟩ rfl rfl) ((HW.out.trans C4.out).trans K5.out) HRS.out (Nat.le_trans HW.out.size SY0.out) (by simp) hS5 hnd hfr
 have HFIN:=Lib.hid (show MadeSys W w c (List.replicate (c.li*8) 0) (.returned (.tuple #[.pointer (some ⟨sy,0,none⟩),.int .i64 0])) w6 by
  refine ⟨⟨sy,q,q,g,b,po,en,List.replicate 6 0⟩,L,rfl,hm,hp,((C4.out.trans K5.out).mono (by simp)).trans' hc6 (fun x hx=>.inr (by rw [List.mem_singleton.1 hx];exact SY0.out)),?_⟩
  intro k hk
  have h1:=HQ.out
  have h2:=HG.out
  have h3:=C3.out.size
  have h4:=SY0.out
  have h5:=C4.out.size
  have h6:=K5.out.size
  rcases hk6 k hk with h|h
  ·simp [opt] at h
   omega
  ·have:=HSZ.out
   omega)
 clear hfr hm hp hc6 hk6 hnd hS5
 go_wp2_with fail
 go_ret2
 exact HFIN.out
end
section
set_option maxHeartbeats 1000000
set_option maxRecDepth 100000
attribute [local go_sem ↓] append_appS copy_copS clear_clrS make_mkS cell_row frozen_row loadLine storeLine loadSlot storeSlot heap_drew heap_drewN heap_alloc heap_past heap_setCell heap_putRow slc_st slc_li slc_us slice_slS loadMsg storeMsg loadHas storeHas msc_kd msc_li msc_di msc_ke
attribute [local go_sem] rowCell_some rowFrozen_some rowHas_some rowIn_some rowPart_full rowPut_full rowSet_some vs_size vs_one wideLine wideSlot run_loadS run_storeS run_appS run_copS run_clrS run_mkS loadW_at storeW_at fit_all fit_le one_int one_bool one_pointer one_slice allOne_list putRow_new ne_size1 ne_size2 zero8_length lines_nil line_eq lit8 slc_size slc_one slc_part fold_slt fold_slc slc_set_us wideMsg wideHas run_slS msc_size msc_one msc_part fold_msc msc_putDi msc_putKe msc_putX ms4_lit
attribute [local simp ↓] heap_drew heap_drewN heap_alloc heap_past heap_setCell heap_putRow
attribute [local simp] rowCell_some rowFrozen_some rowHas_some rowIn_some rowPart_full rowPut_full rowSet_some vs_size fit_all putRow_new ne_size1 ne_size2 zero8_length slc_size msc_size msc_putDi msc_putKe msc_putX fit_le
attribute [local go_sem ↓] ec_he ec_di ec_ow ec_sh ec_bu ec_by ec_wa sc_to
attribute [local go_sem] mi_and mi_or mi_not mi_beq0 mi_bne0 ec_size ec_one ec_part ec_in ec_has ec_setDi ec_setOw ec_setSh ec_setBu ec_setBy ec_setWa ec_setSh0 ec_setWa0 ec_putM sc_size sc_one sc_part
attribute [local simp] ec_size sc_size ec_setDi ec_setOw ec_setSh ec_setBu ec_setBy ec_setWa ec_setSh0 ec_setWa0 ec_putM
attribute [local go_sem ↓] loadEn storeEn loadSd storeSd en_z0
attribute [local go_sem] wideEn wideSd fold_sc size11 putRow_newB putRow_newC ms5_lit
attribute [local simp] en_z0 putRow_newB putRow_newC fit_le ec_has
def Mem (W w:World) (c:Cg) (sy:Nat) (F:List Nat) (ps:List Pt) (en:List En) (es:List Ent) (xs:List Int):Prop:=∃z L,z.sy=sy∧z.all L=F∧ports L=ps∧Msd W w c z L en es xs
def MemTo (W w:World) (c:Cg) (sy:Nat) (F:List Nat) (ps:List Pt) (en:List En) (es:List Ent) (xs:List Int) (w':World):Prop:=∃F',Mem W w' c sy F' ps en es xs∧Chg F w w'∧∀k∈F',k∈F∨w.heap.size≤k
theorem MemTo.of {W w w':World} {c:Cg} {z z':Lay} {L L':List (Po×Pt)} {en:List En} {es:List Ent} {xs:List Int} (h:MTo W w c z L z' L' en es xs w') (hs:z'.sy=z.sy) {ps:List Pt} (hp:ports L'=ps):MemTo W w c z.sy (z.all L) ps en es xs w':=
 ⟨z'.all L',⟨z',L',hs,rfl,hp,h.1⟩,h.2.1,h.2.2⟩
theorem MemTo.trans {W w w1 w2:World} {c:Cg} {sy:Nat} {F F1:List Nat} {ps ps2:List Pt} {en en2:List En} {es es2:List Ent} {xs xs2:List Int} (h1:Mem W w1 c sy F1 ps en es xs) (h2:Chg F w w1) (h3:∀k∈F1,k∈F∨w.heap.size≤k) (h:MemTo W w1 c sy F1 ps2 en2 es2 xs2 w2):MemTo W w c sy F ps2 en2 es2 xs2 w2:=by
 obtain ⟨F2,hm,hc,hk⟩:=h
 refine ⟨F2,hm,h2.trans' hc h3,fun k hk2=>?_⟩
 rcases hk k hk2 with h4|h4
 ·exact h3 k h4
 ·exact .inr (Nat.le_trans h2.size h4)
section
variable {W w w':World} {c:Cg} {sy:Nat} {F:List Nat} {ps:List Pt} {en:List En} {es:List Ent} {xs:List Int} (hm:Mem W w c sy F ps en es xs)
include hm
theorem Mem.keep (hc:Chg [] w w'):Mem W w' c sy F ps en es xs:=by
 obtain ⟨z,L,h1,h2,h3,h⟩:=hm
 exact ⟨z,L,h1,h2,h3,h.keep hc⟩
theorem Mem.keepL {l:List Nat} (hc:Chg l w w') (hl:∀k∈l,k∉F) (hw:∀k∈l,W.heap.size≤k):Mem W w' c sy F ps en es xs:=by
 obtain ⟨z,L,h1,rfl,h3,h⟩:=hm
 exact ⟨z,L,h1,rfl,h3,h.keepL hc hl hw⟩
theorem Mem.stay (hc:Chg [] w w'):MemTo W w c sy F ps en es xs w':=⟨F,hm.keep hc,hc.mono (by simp),fun k hk=>.inl hk⟩
theorem Mem.chg:Chg [] W w:=by obtain ⟨z,L,_,_,_,h⟩:=hm;exact h.chg
theorem Mem.old:∀k∈F,k<w.heap.size:=by obtain ⟨z,L,_,rfl,_,h⟩:=hm;exact h.old
theorem Mem.new:∀k∈F,W.heap.size≤k:=by obtain ⟨z,L,_,rfl,_,h⟩:=hm;exact h.new
theorem mload_ok (i:Nat) (li k:Int) (x:Pt) (hy:ps[i]? =some x) (hT:Tab W) (hl:inB li c.li=true) (hu:x.s.2≤1000000000) (hq:x.up.length<1000) (hma:∀m∈(loadF c.se c.wa x.s li k).2.2.2,mg m=true) (h1:(loadF c.se c.wa x.s li k).2.2.2.length≤1):
 Calls Tryz.prog 138 #[.pointer (some ⟨sy,0,none⟩),.int .i64 i,.int .i64 li,.int .i64 k] w fun e w'=>e=.returned (.tuple #[.int .u64 (loadF c.se c.wa x.s li k).2.1,.bool (loadF c.se c.wa x.s li k).2.2.1])∧MemTo W w c sy F (ps.set i {x with s:=(loadF c.se c.wa x.s li k).1,up:=x.up++(loadF c.se c.wa x.s li k).2.2.2}) en es xs w':=by
 obtain ⟨z,L,rfl,rfl,rfl,h⟩:=hm
 obtain ⟨p,hp⟩:=ports_of hy
 exact (zload_ok i li k p x w h hT hp hl hu hq hma h1).mono fun e w' ⟨he,p',M⟩=>⟨he,MemTo.of M rfl (ports_set ..)⟩
theorem mstore_ok (i:Nat) (li k v:Int) (x:Pt) (hy:ps[i]? =some x) (hT:Tab W) (hl:inB li c.li=true) (hu:x.s.2≤1000000000) (hq:x.up.length<1000) (hma:∀m∈(storeF c.se c.wa x.s li k v).2.2,mg m=true) (h1:(storeF c.se c.wa x.s li k v).2.2.length≤1):
 Calls Tryz.prog 88 #[.pointer (some ⟨sy,0,none⟩),.int .i64 i,.int .i64 li,.int .i64 k,.int .u64 v] w fun e w'=>e=.returned (.bool (storeF c.se c.wa x.s li k v).2.1)∧MemTo W w c sy F (ps.set i {x with s:=(storeF c.se c.wa x.s li k v).1,up:=x.up++(storeF c.se c.wa x.s li k v).2.2}) en es xs w':=by
 obtain ⟨z,L,rfl,rfl,rfl,h⟩:=hm
 obtain ⟨p,hp⟩:=ports_of hy
 exact (zstore_ok i li k v p x w h hT hp hl hu hq hma h1).mono fun e w' ⟨he,p',M⟩=>⟨he,MemTo.of M rfl (ports_set ..)⟩
theorem mreach_own (i:Nat) (li:Int) (x:Pt) (hy:ps[i]? =some x) (hl:inB li c.li=true) (ho:ownsB x.s.1 li=true):
 Calls Tryz.prog 140 #[.pointer (some ⟨sy,0,none⟩),.int .i64 i,.int .i64 li] w fun e w'=>e=.returned (.bool true)∧Chg [] w w':=by
 obtain ⟨z,L,rfl,rfl,rfl,h⟩:=hm
 obtain ⟨p,hp⟩:=ports_of hy
 exact zreach_own i li p x w h hp hl ho
theorem mreach_ok (i:Nat) (li:Int) (x:Pt) (hy:ps[i]? =some x) (hT:Tab W) (hl:inB li c.li=true) (ho:ownsB x.s.1 li=false) (hu:x.s.2≤1000000000) (hq:x.up.length<1000) (hma:∀m∈(reachF c.se c.wa x.s li).2,mg m=true) (h1:(reachF c.se c.wa x.s li).2.length≤1):
 Calls Tryz.prog 140 #[.pointer (some ⟨sy,0,none⟩),.int .i64 i,.int .i64 li] w fun e w'=>e=.returned (.bool false)∧MemTo W w c sy F (ps.set i {x with s:=(reachF c.se c.wa x.s li).1,up:=x.up++(reachF c.se c.wa x.s li).2}) en es xs w':=by
 obtain ⟨z,L,rfl,rfl,rfl,h⟩:=hm
 obtain ⟨p,hp⟩:=ports_of hy
 exact (zreach_ok i li p x w h hT hp hl ho hu hq hma h1).mono fun e w' ⟨he,p',M⟩=>⟨he,MemTo.of M rfl (ports_set ..)⟩
theorem mflush_4 (i:Nat) (li:Int) (x:Pt) (hy:ps[i]? =some x) (hT:Tab W) (hl:inB li c.li=true) (hq:x.up.length<1000) (hma:mg (ms4 4 li false false)=true):
 Calls Tryz.prog 90 #[.pointer (some ⟨sy,0,none⟩),.int .i64 i,.int .i64 li,.int .i64 4] w fun e w'=>e=.returned (.int .i64 0)∧MemTo W w c sy F (ps.set i {x with up:=x.up++[ms4 4 li false false]}) en es xs w':=by
 obtain ⟨z,L,rfl,rfl,rfl,h⟩:=hm
 obtain ⟨p,hp⟩:=ports_of hy
 exact (zflush_4 i li p x w h hT hp hl hq hma).mono fun e w' ⟨he,p',M⟩=>⟨he,MemTo.of M rfl (ports_set ..)⟩
theorem mflush_5 (i:Nat) (li:Int) (x:Pt) (hy:ps[i]? =some x) (hT:Tab W) (hl:inB li c.li=true) (hq:x.up.length<1000) (hma:mg (ms4 5 li false false)=true):
 Calls Tryz.prog 90 #[.pointer (some ⟨sy,0,none⟩),.int .i64 i,.int .i64 li,.int .i64 5] w fun e w'=>e=.returned (.int .i64 0)∧MemTo W w c sy F (ps.set i {x with up:=x.up++[ms4 5 li false false]}) en es xs w':=by
 obtain ⟨z,L,rfl,rfl,rfl,h⟩:=hm
 obtain ⟨p,hp⟩:=ports_of hy
 exact (zflush_5 i li p x w h hT hp hl hq hma).mono fun e w' ⟨he,p',M⟩=>⟨he,MemTo.of M rfl (ports_set ..)⟩
theorem mup_none (i:Nat) (x:Pt) (hy:ps[i]? =some x) (hx:x.up=[]):
 Calls Tryz.prog 19 #[.pointer (some ⟨sy,0,none⟩),.int .i64 i] w fun e w'=>e=.returned (.int .i64 14)∧Chg [] w w':=by
 obtain ⟨z,L,rfl,rfl,rfl,h⟩:=hm
 obtain ⟨p,hp⟩:=ports_of hy
 exact zup_none i p x w h hp hx
theorem mup_go (i k:Nat) (x:Pt) (hy:ps[i]? =some x) (m:Ms) (rest:List Ms) (e e':En) (l:List Int) (hl:l.length=8) (ds:List Sd) (v:Int) (hT:Tab W) (hx:x.up=m::rest) (hlu:x.up.length≤1000) (hk:m.li=(k:Int)) (he:en[k]? =some e) (hX:ln (over xs es) k=l)
 (hr:askE (hereE e l hl) i m=((e',ds),v)) (hto:∀d∈ds,0≤d.to∧d.to<c.co∧mg d.m=true) (M:Nat) (hM:∀x∈ps,x.dn.length≤M) (hMn:M+ds.length≤1000):
 Calls Tryz.prog 19 #[.pointer (some ⟨sy,0,none⟩),.int .i64 i] w fun r w'=>(v≠0∧r=.returned (.int .i64 v)∧MemTo W w c sy F ps en es xs w')∨(v=0∧r=.returned (.int .i64 0)∧MemTo W w c sy F (sendP (ps.set i {x with up:=rest}) ds) (en.set k e') es xs w'):=by
 obtain ⟨z,L,rfl,rfl,rfl,h⟩:=hm
 obtain ⟨p,hp⟩:=ports_of hy
 refine (zup_go i k p x m rest e e' l hl ds v w h hT hp hx hlu hk he hX hr hto M hM hMn).mono fun r w' hr2=>?_
 rcases hr2 with ⟨h1,h2,be',M1⟩|⟨h1,h2,be',ks',L',M1,hp2⟩
 ·exact .inl ⟨h1,h2,MemTo.of M1 rfl rfl⟩
 ·exact .inr ⟨h1,h2,MemTo.of M1 rfl hp2⟩
theorem manswer_none (i:Nat) (x:Pt) (hy:ps[i]? =some x) (hx:x.an=[]):
 Calls Tryz.prog 23 #[.pointer (some ⟨sy,0,none⟩),.int .i64 i] w fun e w'=>e=.returned (.int .i64 14)∧MemTo W w c sy F (ps.set i {x with an:=[]}) en es xs w':=by
 obtain ⟨z,L,rfl,rfl,rfl,h⟩:=hm
 obtain ⟨p,hp⟩:=ports_of hy
 exact (zanswer_none i p x w h hp hx).mono fun e w' ⟨he,p',M⟩=>⟨he,MemTo.of M rfl (ports_set ..)⟩
theorem manswer_go (i k:Nat) (x:Pt) (hy:ps[i]? =some x) (m:Ms) (rest:List Ms) (e e':En) (ds:List Sd) (v:Int) (hT:Tab W) (hx:x.an=m::rest) (hlu:x.an.length≤1000) (hk:m.li=(k:Int)) (he:en[k]? =some e)
 (hr:ansE e i m=((e',ds),v)) (hto:∀d∈ds,0≤d.to∧d.to<c.co∧mg d.m=true) (M:Nat) (hM:∀x∈ps,x.dn.length≤M) (hMn:M+ds.length≤1000):
 Calls Tryz.prog 23 #[.pointer (some ⟨sy,0,none⟩),.int .i64 i] w fun r w'=>(v≠0∧r=.returned (.int .i64 v)∧MemTo W w c sy F (ps.set i {x with an:=rest}) en es xs w')∨(v=0∧r=.returned (.int .i64 0)∧MemTo W w c sy F (sendP (ps.set i {x with an:=rest}) ds) (en.set k e') es xs w'):=by
 obtain ⟨z,L,rfl,rfl,rfl,h⟩:=hm
 obtain ⟨p,hp⟩:=ports_of hy
 refine (zanswer_go i k p x m rest e e' ds v w h hT hp hx hlu hk he hr hto M hM hMn).mono fun r w' hr2=>?_
 rcases hr2 with ⟨h1,h2,p',M1⟩|⟨h1,h2,ks',L',M1,hp2⟩
 ·exact .inl ⟨h1,h2,MemTo.of M1 rfl (ports_set ..)⟩
 ·exact .inr ⟨h1,h2,MemTo.of M1 rfl hp2⟩
theorem mhear_none (i:Nat) (x:Pt) (hy:ps[i]? =some x) (hx:x.dn=[]):
 Calls Tryz.prog 20 #[.pointer (some ⟨sy,0,none⟩),.int .i64 i] w fun e w'=>e=.returned (.tuple #[.agg (msc msZ),.int .i64 14])∧MemTo W w c sy F (ps.set i {x with dn:=[]}) en es xs w':=by
 obtain ⟨z,L,rfl,rfl,rfl,h⟩:=hm
 obtain ⟨p,hp⟩:=ports_of hy
 exact (zhear_none i p x w h hp hx).mono fun e w' ⟨he,p',M⟩=>⟨he,MemTo.of M rfl (ports_set ..)⟩
theorem mhear_go (i:Nat) (x:Pt) (hy:ps[i]? =some x) (m:Ms) (rest:List Ms) (s':Sta) (av:List Ms) (v:Int) (hT:Tabs W) (hx:x.dn=m::rest) (hlu:x.dn.length≤1000) (hu:x.s.2≤1000000000) (hr:hearF c.se c.wa x.s m=(s',(av,v))) (ha1:av.length≤1) (hla:x.an.length<1000) (hma:∀a∈av,mg a=true):
 Calls Tryz.prog 20 #[.pointer (some ⟨sy,0,none⟩),.int .i64 i] w fun e w'=>(v≠0∧e=.returned (.tuple #[.agg (msc msZ),.int .i64 v])∧MemTo W w c sy F (ps.set i {x with s:=s',dn:=rest}) en es xs w')∨(v=0∧e=.returned (.tuple #[.agg (msc m),.int .i64 0])∧MemTo W w c sy F (ps.set i {x with s:=s',an:=x.an++av,dn:=rest}) en es xs w'):=by
 obtain ⟨z,L,rfl,rfl,rfl,h⟩:=hm
 obtain ⟨p,hp⟩:=ports_of hy
 refine (zhear_go i p x m rest s' av v w h hT hp hx hlu hu hr ha1 hla hma).mono fun r w' hr2=>?_
 rcases hr2 with ⟨h1,h2,p',M1⟩|⟨h1,h2,ks',p',M1⟩
 ·exact .inl ⟨h1,h2,MemTo.of M1 rfl (ports_set ..)⟩
 ·exact .inr ⟨h1,h2,MemTo.of M1 rfl (ports_set ..)⟩
theorem mdrain_ok (k:Int) (hk:inB k c.li=true):
 Calls Tryz.prog 66 #[.pointer (some ⟨sy,0,none⟩),.int .i64 k] w fun e w'=>e=.returned (.int .i64 (drainVal es k))∧MemTo W w c sy F ps en (drainEs es k) (drainXs xs es k) w':=by
 obtain ⟨z,L,rfl,rfl,rfl,h⟩:=hm
 exact (zdrain_ok k w h hk).mono fun e w' ⟨he,be',ks',M⟩=>⟨he,MemTo.of M rfl rfl⟩
theorem mload_no (k li:Int) (wd:Int) (hk:inB k c.co=false):Calls Tryz.prog 138 #[.pointer (some ⟨sy,0,none⟩),.int .i64 k,.int .i64 li,.int .i64 wd] w fun e w'=>e=.returned (.tuple #[.int .u64 0,.bool false])∧w=w':=by
 obtain ⟨z,L,rfl,rfl,rfl,h⟩:=hm
 exact zload_no k li wd w h hk
theorem mload_off (i:Nat) (li:Int) (wd:Int) (hi:i<c.co) (hl:inB li c.li=false):Calls Tryz.prog 138 #[.pointer (some ⟨sy,0,none⟩),.int .i64 i,.int .i64 li,.int .i64 wd] w fun e w'=>e=.returned (.tuple #[.int .u64 0,.bool false])∧w=w':=by
 obtain ⟨z,L,rfl,rfl,rfl,h⟩:=hm
 exact zload_off i li wd w h hi hl
theorem mstore_no (k li:Int) (wd v:Int) (hk:inB k c.co=false):Calls Tryz.prog 88 #[.pointer (some ⟨sy,0,none⟩),.int .i64 k,.int .i64 li,.int .i64 wd,.int .u64 v] w fun e w'=>e=.returned (.bool false)∧w=w':=by
 obtain ⟨z,L,rfl,rfl,rfl,h⟩:=hm
 exact zstore_no k li wd v w h hk
theorem mstore_off (i:Nat) (li:Int) (wd v:Int) (hi:i<c.co) (hl:inB li c.li=false):Calls Tryz.prog 88 #[.pointer (some ⟨sy,0,none⟩),.int .i64 i,.int .i64 li,.int .i64 wd,.int .u64 v] w fun e w'=>e=.returned (.bool false)∧w=w':=by
 obtain ⟨z,L,rfl,rfl,rfl,h⟩:=hm
 exact zstore_off i li wd v w h hi hl
theorem mreach_no (k li:Int) (hk:inB k c.co=false):Calls Tryz.prog 140 #[.pointer (some ⟨sy,0,none⟩),.int .i64 k,.int .i64 li] w fun e w'=>e=.returned (.bool false)∧w=w':=by
 obtain ⟨z,L,rfl,rfl,rfl,h⟩:=hm
 exact zreach_no k li w h hk
theorem mreach_off (i:Nat) (li:Int) (hi:i<c.co) (hl:inB li c.li=false):Calls Tryz.prog 140 #[.pointer (some ⟨sy,0,none⟩),.int .i64 i,.int .i64 li] w fun e w'=>e=.returned (.bool false)∧w=w':=by
 obtain ⟨z,L,rfl,rfl,rfl,h⟩:=hm
 exact zreach_off i li w h hi hl
theorem mflush_no (k li:Int) (kd:Int) (hk:inB k c.co=false):Calls Tryz.prog 90 #[.pointer (some ⟨sy,0,none⟩),.int .i64 k,.int .i64 li,.int .i64 kd] w fun e w'=>e=.returned (.int .i64 1)∧w=w':=by
 obtain ⟨z,L,rfl,rfl,rfl,h⟩:=hm
 exact zflush_no k li kd w h hk
theorem mflush_off (i:Nat) (li:Int) (kd:Int) (hi:i<c.co) (hl:inB li c.li=false):Calls Tryz.prog 90 #[.pointer (some ⟨sy,0,none⟩),.int .i64 i,.int .i64 li,.int .i64 kd] w fun e w'=>e=.returned (.int .i64 1)∧w=w':=by
 obtain ⟨z,L,rfl,rfl,rfl,h⟩:=hm
 exact zflush_off i li kd w h hi hl
theorem mflush_kind (i:Nat) (li kd:Int) (hi:i<c.co) (hl:inB li c.li=true) (h4:kd≠4) (h5:kd≠5):Calls Tryz.prog 90 #[.pointer (some ⟨sy,0,none⟩),.int .i64 i,.int .i64 li,.int .i64 kd] w fun e w'=>e=.returned (.int .i64 1)∧w=w':=by
 obtain ⟨z,L,rfl,rfl,rfl,h⟩:=hm
 exact zflush_kind i li kd w h hi hl h4 h5
theorem mup_no (k:Int) (hk:inB k c.co=false):Calls Tryz.prog 19 #[.pointer (some ⟨sy,0,none⟩),.int .i64 k] w fun e w'=>e=.returned (.int .i64 1)∧w=w':=by
 obtain ⟨z,L,rfl,rfl,rfl,h⟩:=hm
 exact zup_no k w h hk
theorem manswer_no (k:Int) (hk:inB k c.co=false):Calls Tryz.prog 23 #[.pointer (some ⟨sy,0,none⟩),.int .i64 k] w fun e w'=>e=.returned (.int .i64 1)∧w=w':=by
 obtain ⟨z,L,rfl,rfl,rfl,h⟩:=hm
 exact zanswer_no k w h hk
theorem mhear_no (k:Int) (hk:inB k c.co=false):Calls Tryz.prog 20 #[.pointer (some ⟨sy,0,none⟩),.int .i64 k] w fun e w'=>e=.returned (.tuple #[.agg (msc msZ),.int .i64 1])∧Chg [] w w':=by
 obtain ⟨z,L,rfl,rfl,rfl,h⟩:=hm
 exact zhear_no k w h hk
theorem mdrain_off (k:Int) (hk:inB k c.li=false):Calls Tryz.prog 66 #[.pointer (some ⟨sy,0,none⟩),.int .i64 k] w fun e w'=>e=.returned (.int .i64 1)∧w=w':=by
 obtain ⟨z,L,rfl,rfl,rfl,h⟩:=hm
 exact zdrain_off k w h hk
end
theorem mnew_none (W w:World) (c:Cg) (hc:c.Ok) (hW:Chg [] W w) (A:Option Addr) (nc:Nat):Calls Tryz.prog 10 #[.agg c.cells,.slice A 0 nc] w fun e w'=>∃sy F,e=.returned (.tuple #[.pointer (some ⟨sy,0,none⟩),.int .i64 0])∧Mem W w' c sy F (List.replicate c.co (pt0 c)) (List.replicate c.li enE) [] (List.replicate (c.li*8) 0)∧Chg [] w w'∧∀k∈F,w.heap.size≤k:=
 (znew_none W w c hc hW A nc).mono fun e w' ⟨z,L,he,hm,hp,hc,hk⟩=>⟨z.sy,z.all L,he,⟨z,L,rfl,rfl,hp,hm⟩,hc,hk⟩
end
end Go.Proofs.YtcjoinhngdfdmaaGreatDoor
