/- Texts of the walk, one behind the other: Cob Coc Cod Coe Cof Cog. No condition. -/
import Derived.Test.YtcjoinhngdfdmaaGreatDoorCLan
import Derived.Test.YtcjoinhngdfdmaaGreatDoorCLao
import Derived.StillTailTactics
namespace Go.Proofs.YtcjoinhngdfdmaaGreatDoor
open Go.RowKit
set_option linter.unusedVariables false
set_option maxHeartbeats 1000000
set_option maxRecDepth 100000
attribute [local go_sem ↓] append_appS copy_copS clear_clrS make_mkS cell_row frozen_row heap_drew heap_drewN heap_alloc heap_past heap_setCell heap_putRow loadSe storeSe loadIns storeIns loadEv storeEv loadRg storeRg sec_kd sec_li sec_wo sec_va sec_sn insc_op insc_a insc_b insc_c insc_im evc_kd evc_co evc_li evc_wo evc_va coc_id coc_ru coc_reg coc_pr coc_pc coc_qb coc_wt
attribute [local go_sem] rowCell_some rowFrozen_some rowHas_some rowIn_some rowPart_full rowPut_full rowSet_some run_loadS run_storeS run_appS run_copS run_clrS run_mkS loadW_at storeW_at fit_all fit_le one_int one_bool one_pointer one_slice allOne_list putRow_new ne_size1 ne_size2 wideSe wideIns wideEv wideRg sec_size sec_one sec_lit sec_z sec_ne sec_set0 sec_set1 sec_set2 sec_set3 seZ_kd seZ_li seZ_wo seZ_va seZ_sn insc_size insc_one insc_ne insc_lit insc_z evc_size evc_one evc_ne evc_lit evc_z evc_set0 evc_set1 evc_set2 evc_set3 evc_set4 evZ_kd evZ_co evZ_li evZ_wo evZ_va fold_evc coc_setRu coc_size coc_setPc coc_setWt coc_setReg coc_regs vs_size vs_one
attribute [local simp ↓] heap_drew heap_drewN heap_alloc heap_past heap_setCell heap_putRow
attribute [local simp] rowCell_some rowFrozen_some rowHas_some rowIn_some rowPart_full rowPut_full rowSet_some fit_all putRow_new ne_size1 ne_size2 sec_size insc_size evc_size coc_size coc_setRu coc_setPc coc_setWt coc_setReg vs_size fit_le
section
attribute [local go_sem ↓] heap_drewN
structure CoOk (Q:Co):Prop where
 h8:Q.rg.length=8
 pc:Q.pc≤2147483648
 np:Q.pr.length≤4096
 pr:∀x∈Q.pr,0≤x.1∧x.1<18446744073709551616
 wt:Q.wt≤16
 id:0≤Q.id∧Q.id<8
 pos:PosC Q
structure Cor (w:World) (kb pb qb:Nat) (Q:Co):Prop where
 own:w.heap[kb]? =some (.cells (coc Q.id Q.ru Q.rg pb Q.pr.length Q.pc qb Q.wt) 98 (0,0))
 steps:Sts w pb (Q.pr.map stp)
 buf:Buf w qb Q.rm Q.es
 kp:kb≠pb
 kq:kb≠qb
 pq:pb≠qb
 ok:CoOk Q
theorem Cor.keep {w w':World} {kb pb qb:Nat} {Q:Co} {l:List Nat} (h:Cor w kb pb qb Q) (hc:Chg l w w') (h1:kb∉l) (h2:pb∉l) (h3:qb∉l):Cor w' kb pb qb Q:=
 ⟨hc.keep h.own h1,h.steps.keep hc h2,h.buf.keep hc h3,h.kp,h.kq,h.pq,h.ok⟩
theorem Cor.keep0 {w w':World} {kb pb qb:Nat} {Q:Co} (h:Cor w kb pb qb Q) (hc:Chg [] w w'):Cor w' kb pb qb Q:=h.keep hc (by simp) (by simp) (by simp)
theorem Cor.oldk {w:World} {kb pb qb:Nat} {Q:Co} (h:Cor w kb pb qb Q):Old w kb:=old h.own
theorem Cor.oldp {w:World} {kb pb qb:Nat} {Q:Co} (h:Cor w kb pb qb Q):Old w pb:=old h.steps
theorem Cor.oldq {w:World} {kb pb qb:Nat} {Q:Co} (h:Cor w kb pb qb Q):Old w qb:=h.buf.oldq
def EvV (w:World) (B kb:Nat) (F:List Nat) (v:Value) (l:List Ev):Prop:=∃A cap be,v=.slice A l.length cap∧Vec 5 45 Ev.enc w kb be A cap l∧(be=kb∨B≤be)∧(be=kb∨be∉F)
theorem EvV.nil (w:World) (B kb:Nat) (F:List Nat):EvV w B kb F (.slice none 0 0) []:=⟨none,0,kb,rfl,Vec.nil ..,.inl rfl,.inl rfl⟩
theorem EvV.one {w:World} {B kb be:Nat} {F:List Nat} {x:Ev} (h:w.heap[be]? =some (.cells (evc x) 45 (0,0))) (hk:be≠kb) (hB:B≤be) (hF:be∉F):EvV w B kb F (.slice (some ⟨be,0,none⟩) 1 1) [x]:=
 ⟨_,1,be,rfl,.inr ⟨hk,rfl,by simp,[],by rw [sq_one_ev];exact h,by simp⟩,.inr hB,.inr hF⟩
theorem EvV.keep {w w':World} {B kb:Nat} {F:List Nat} {v:Value} {l:List Ev} {m:List Nat} (h:EvV w B kb F v l) (hc:Chg m w w') (hm:∀be,B≤be→be≠kb→be∉F→be∉m):EvV w' B kb F v l:=by
 obtain ⟨A,cap,be,h1,h2,h3,h4⟩:=h
 refine ⟨A,cap,be,h1,?_,h3,h4⟩
 rcases h2 with ⟨e1,e2,e3,e4⟩|⟨e1,e2,e3,r,e4,e5⟩
 ·exact .inl ⟨e1,e2,e3,e4⟩
 ·refine .inr ⟨e1,e2,e3,r,hc.keep e4 (hm be ?_ e1 ?_),e5⟩
  ·exact h3.resolve_left e1
  ·exact h4.resolve_left e1
def CoTo (w:World) (kb pb qb:Nat) (F:List Nat) (Q':Co) (l:List Ev) (e:Ending) (w':World):Prop:=∃v,e=.returned v∧EvV w' w.heap.size kb F v l∧Cor w' kb pb qb Q'∧Chg [kb,pb,qb] w w'
theorem wrap_i64_im {x:Int} (h:0≤x∧x≤2147483647):wrap64 x=x:=by
 have:wrap64 x=(x+9223372036854775808) % 18446744073709551616-9223372036854775808:=by simp [wrap64]
 omega
theorem evv_mono {w:World} {B B' kb:Nat} {F:List Nat} {v:Value} {l:List Ev} (h:EvV w B kb F v l) (hB:B'≤B):EvV w B' kb F v l:=by
 obtain ⟨A,cap,be,h1,h2,h3,h4⟩:=h
 exact ⟨A,cap,be,h1,h2,h3.imp id (Nat.le_trans hB),h4⟩
section
variable {w:World} {kb pb qb:Nat} {F:List Nat} {Q:Co} (hC:Cor w kb pb qb Q) (hF:∀k∈F,k<w.heap.size)
include hC
theorem dsettled:Calls Tryz.prog 81 #[.pointer (some ⟨kb,0,none⟩)] w fun e w'=>e=.returned (.bool (settledB Q))∧w=w':=by
 have h8:=hC.ok.h8
 have hb:=hC.own
 have HB:=Lib.hid hC.buf
 have he:((Q.es.length:Int)==0)=Q.es.isEmpty:=by cases Q.es<;>simp;omega
 have hw:((Q.wt:Int)==0)=(Q.wt==0):=by rw [Bool.eq_iff_iff];simp
 clear hC
 unfold settledB
 generalize Q.es.isEmpty=b1 at he ⊢
 cases b1
 all_goals
  go_enter Tryz.func81,Tryz.ntmps81
  go_wp2_with (go_at_call 76;refine (slen_ok HB.out).mono ?_;rintro e w' ⟨rfl,rfl⟩)
  go_ret
  exact ⟨rfl,rfl⟩
include hF
theorem dend (kd:Int):Calls Tryz.prog 42 #[.pointer (some ⟨kb,0,none⟩),.int .i64 kd] w (CoTo w kb pb qb F (stopC Q) [evC Q kd 0 0 0]):=by
 refine (cend hC.ok.h8 hC.own kd).mono ?_
 rintro e w' ⟨be,rfl,hc,hk,hv,hB⟩
 have ok:=hC.oldk.lt
 refine ⟨_,rfl,.one hv (by omega) hB (fun h=>by have:=hF _ h;omega),?_,hc.mono (by simp)⟩
 exact ⟨hk,hC.steps.keep hc (by simp [hC.kp.symm]),hC.buf.keep hc (by simp [hC.kq.symm]),hC.kp,hC.kq,hC.pq,⟨hC.ok.h8,hC.ok.pc,hC.ok.np,hC.ok.pr,hC.ok.wt,hC.ok.id,hC.ok.pos.stop⟩⟩
theorem dnext {v:Value} {l:List Ev} {B:Nat} (hv:EvV w B kb F v l) (hp:Q.pc<2147483648):Calls Tryz.prog 45 #[.pointer (some ⟨kb,0,none⟩),v] w fun e w'=>e=.returned v∧EvV w' B kb F v l∧Cor w' kb pb qb (nextC Q)∧Chg [kb] w w':=by
 have _:=hF
 refine (cnext hC.ok.h8 hC.own v (by omega) (by omega)).mono ?_
 rintro e w' ⟨rfl,hc,hk⟩
 refine ⟨rfl,hv.keep hc (fun be _ h _=>by simpa using h),?_,hc⟩
 exact ⟨hk,hC.steps.keep hc (by simp [hC.kp.symm]),hC.buf.keep hc (by simp [hC.kq.symm]),hC.kp,hC.kq,hC.pq,⟨hC.ok.h8,by show Q.pc+1≤_;omega,hC.ok.np,hC.ok.pr,hC.ok.wt,hC.ok.id,hC.ok.pos.next⟩⟩
theorem dnext_ev {w2:World} (c2:Chg [] w w2) (x:Ev) (hp:Q.pc<2147483648):Calls Tryz.prog 45 #[.pointer (some ⟨kb,0,none⟩),.slice (some ⟨w2.heap.size,0,none⟩) 1 1] (w2.alloc (.cells (evc x) 45)) (CoTo w kb pb qb F (nextC Q) [x]):=by
 have c3:Chg [] w (w2.alloc (.cells (evc x) 45)):=c2.alloc _
 have hs:=c2.size
 have hk:=hC.oldk.lt
 refine (dnext (hC.keep0 c3) (F:=F) (fun k h=>by have:=hF k h;simp;omega) (v:=.slice (some ⟨w2.heap.size,0,none⟩) 1 1) (l:=[x]) (B:=w.heap.size) (EvV.one (by simp) (by omega) hs (fun h=>by have:=hF _ h;omega)) hp).mono ?_
 rintro e w' ⟨rfl,h1,h2,h3⟩
 exact ⟨_,rfl,h1,h2,(c3.mono (by simp)).trans (h3.mono (by simp))⟩
theorem dnext_nil (hp:Q.pc<2147483648):Calls Tryz.prog 45 #[.pointer (some ⟨kb,0,none⟩),.slice none 0 0] w (CoTo w kb pb qb F (nextC Q) []):=by
 refine (dnext hC hF (EvV.nil w w.heap.size kb F) hp).mono ?_
 rintro e w' ⟨rfl,h1,h2,h3⟩
 exact ⟨_,rfl,h1,h2,h3.mono (by simp)⟩
theorem dfence (hp:Q.pc<2147483648):Calls Tryz.prog 47 #[.pointer (some ⟨kb,0,none⟩)] w (CoTo w kb pb qb F (if settledB Q then nextC Q else Q) (if settledB Q then [evC Q 7 0 0 0] else [])):=by
 have S:=dsettled hC
 cases hs:settledB Q
 ·rw [hs] at S
  show Calls _ _ _ _ (CoTo w kb pb qb F Q [])
  have HS:=Lib.hid S
  have HC:=Lib.hid hC
  clear S hC hs hF
  go_enter Tryz.func47,Tryz.ntmps47
  go_wp2_with (go_at_call 81;refine HS.out.mono ?_;rintro e w' ⟨rfl,rfl⟩)
  go_ret
  exact ⟨_,rfl,EvV.nil ..,HC.out,Chg.refl _ _⟩
 ·rw [hs] at S
  show Calls _ _ _ _ (CoTo w kb pb qb F (nextC Q) [evC Q 7 0 0 0])
  have HS:=Lib.hid S
  have HC:=Lib.hid hC
  have HF:=Lib.hid hF
  have HP:=Lib.hid hp
  clear S hC hs hF hp
  go_enter Tryz.func47,Tryz.ntmps47
  go_wp2_with (go_at_call 81;refine HS.out.mono ?_;rintro e w' ⟨rfl,rfl⟩)
  refine (cevent HC.out.own 7 0 0 0).mono ?_
  rintro e w2 ⟨rfl,c2⟩
  have HC2:=Lib.hid c2
  clear c2
  go_wp2_with fail
  refine (dnext_ev HC.out HF.out HC2.out _ HP.out).mono ?_
  rintro e w4 ⟨v,rfl,hv⟩
  go_wp2_with fail
  go_ret
  exact ⟨_,rfl,hv⟩
theorem djump (i:Ins) (ha:0≤i.a∧i.a<8) (hb:0≤i.b∧i.b<8) (hi:0≤i.im∧i.im≤2147483647) (hp:Q.pc<2147483648):Calls Tryz.prog 44 #[.pointer (some ⟨kb,0,none⟩),.agg (insc i)] w (CoTo w kb pb qb F (if goV i.op (regA Q i.a) (regA Q i.b) then {Q with pc:=i.im.toNat} else nextC Q) []):=by
 obtain ⟨na,hna⟩:∃n:Nat,i.a=(n:Int):=⟨i.a.toNat,by omega⟩
 obtain ⟨nb,hnb⟩:∃n:Nat,i.b=(n:Int):=⟨i.b.toNat,by omega⟩
 have ea:regA Q i.a=regN Q.rg na:=by unfold regA;rw [hna,Int.toNat_natCast]
 have eb:regA Q i.b=regN Q.rg nb:=by unfold regA;rw [hnb,Int.toNat_natCast]
 have la:na<8:=by omega
 have lb:nb<8:=by omega
 have la':(na:Int)<8:=by omega
 have lb':(nb:Int)<8:=by omega
 have h8:=hC.ok.h8
 have hb0:=hC.own
 have ob:=old hb0
 have HC:=Lib.hid hC
 have HF:=Lib.hid hF
 have HP:=Lib.hid hp
 have HI:=Lib.hid hi
 have hx:(w.alloc (.cells (insc i) 33)).heap[w.heap.size]? =some (.cells (insc i) 33 (0,0)):=by simp
 rw [ea,eb]
 have HCH:Chg [] w (w.alloc (.cells (insc i) 33)):=(Chg.refl [] w).alloc _
 have hb1:=HCH.keep hb0 (by simp)
 generalize hw1:w.alloc (.cells (insc i) 33)=w1 at hx hb1 HCH
 generalize hz:w.heap.size=p at hx
 have R1:∀y:Aft w1.heap.size w1,y.w.heap[p]? =some (.cells (insc i) 33 (0,0)):=fun y=>(y.block (old hx).lt).trans hx
 have R2:∀y:Aft w1.heap.size w1,y.w.heap[kb]? =some (.cells (coc Q.id Q.ru Q.rg pb Q.pr.length Q.pc qb Q.wt) 98 (0,0)):=fun y=>(y.block (old hb1).lt).trans hb1
 have HCH':=Lib.hid HCH
 have ob1:=old hb1
 have ox1:=old hx
 have HG:=Lib.hid (fun w=>ggo_any i.op (regN Q.rg na) (regN Q.rg nb) w)
 have him:=wrap_i64_im HI.out
 have hiN:i.im=((i.im.toNat:Nat):Int):=by have:=HI.out;omega
 have HIN:=Lib.hid hiN
 clear hC hF hp hi ha hb ea eb hiN HCH
 cases hg:goV i.op (regN Q.rg na) (regN Q.rg nb)
 ·rw [hg] at HG
  show Calls _ _ _ _ (CoTo w kb pb qb F (nextC Q) [])
  clear hg
  go_enter Tryz.func44,Tryz.ntmps44
  go_wp2_with fail
  refine wp_region_aft w1.heap.size (by kernel_rfl) (by kernel_rfl) ?_
  repeat (go_big_quiet_step (first |(go_at_call 80;exact calls_aftC (Nat.le_refl _) ((HG.out _).mono fun _ _ h=>⟨h.1,h.2▸Chg.mapW _ _⟩))))
  refine wpQuiet_nil ?_
  rintro _ ⟨y,rfl⟩
  have r2:=R2 y
  have hcy:=HCH'.out.trans (Below.chg y.below (Nat.le_refl _))
  have HCY:=Lib.hid hcy
  clear hcy
  go_wp2_with fail
  refine (dnext_nil (HC.out.keep0 HCY.out) (F:=F) (fun k h=>by have:=HF.out k h;have:=HCY.out.size;omega) HP.out).mono ?_
  rintro e w4 ⟨v,rfl,h1,h2,h3⟩
  go_wp2_with fail
  go_ret
  exact ⟨_,rfl,evv_mono h1 HCY.out.size,h2,(HCY.out.mono (by simp)).trans h3⟩
 ·rw [hg] at HG
  show Calls _ _ _ _ (CoTo w kb pb qb F {Q with pc:=i.im.toNat} [])
  clear hg
  go_enter Tryz.func44,Tryz.ntmps44
  go_wp2_with fail
  refine wp_region_aft w1.heap.size (by kernel_rfl) (by kernel_rfl) ?_
  repeat (go_big_quiet_step (first |(go_at_call 80;exact calls_aftC (Nat.le_refl _) ((HG.out _).mono fun _ _ h=>⟨h.1,h.2▸Chg.mapW _ _⟩))))
  refine wpQuiet_nil ?_
  rintro _ ⟨y,rfl⟩
  have r1:=R1 y
  have r2:=R2 y
  have hcy:=HCH'.out.trans (Below.chg y.below (Nat.le_refl _))
  have HCY:=Lib.hid hcy
  clear hcy
  go_wp2_with fail
  go_ret
  refine ⟨_,rfl,EvV.nil ..,?_,(HCY.out.mono (by simp)).setCell kb _ _ (.inl (by simp))⟩
  have hc:=(Chg.refl [kb] y.w).setCell kb 11 (.int .i64 i.im) (.inl (by simp))
  have h2:=HC.out.keep0 HCY.out
  refine ⟨?_,h2.steps.keep hc (by simp [h2.kp.symm]),h2.buf.keep hc (by simp [h2.kq.symm]),h2.kp,h2.kq,h2.pq,⟨h2.ok.h8,?_,h2.ok.np,h2.ok.pr,h2.ok.wt,h2.ok.id,⟨h2.ok.pos.rg,h2.ok.pos.es⟩⟩⟩
  ·rw [heap_setCell,if_pos rfl,r2,rowSet_some,coc_setPc h8]
   show some (Obj.cells (coc Q.id Q.ru Q.rg pb Q.pr.length i.im qb Q.wt) _ _)=some (Obj.cells (coc Q.id Q.ru Q.rg pb Q.pr.length (i.im.toNat:Nat) qb Q.wt) _ _)
   rw [←HIN.out]
  ·show i.im.toNat≤_
   have:=HI.out
   omega
end
end
section
attribute [local go_sem ↓] heap_drewN
theorem sbE_same {room:Nat} {es:List Se} {e:Se} (h:sbV room es e≠0):sbE room es e=es:=by
 unfold sbV at h
 unfold sbE
 split
 ·rename_i h1
  rw [if_pos h1] at h
  split
  ·rfl
  ·rename_i h2
   rw [if_neg h2] at h
   exact absurd rfl h
 ·rfl
theorem Cor.entries {w w':World} {kb pb qb:Nat} {Q:Co} {es':List Se} (h:Cor w kb pb qb Q) (hc:Chg [qb] w w') (hb:Buf w' qb Q.rm es') (hp:∀e∈es',0≤e.va):Cor w' kb pb qb {Q with es:=es'}:=
 ⟨hc.keep h.own (by simp [h.kq]),h.steps.keep hc (by simp [h.pq]),hb,h.kp,h.kq,h.pq,⟨h.ok.h8,h.ok.pc,h.ok.np,h.ok.pr,h.ok.wt,h.ok.id,⟨h.ok.pos.rg,hp⟩⟩⟩
theorem CoTo.from {w w4:World} {kb pb qb:Nat} {F:List Nat} {Q':Co} {l:List Ev} {e:Ending} {w':World} (hc:Chg [kb,pb,qb] w w4) (h:CoTo w4 kb pb qb F Q' l e w'):CoTo w kb pb qb F Q' l e w':=by
 obtain ⟨v,he,h1,h2,h3⟩:=h
 exact ⟨v,he,evv_mono h1 hc.size,h2,hc.trans h3⟩
section
variable {w:World} {kb pb qb:Nat} {F:List Nat} {Q:Co} (hC:Cor w kb pb qb Q) (hF:∀k∈F,k<w.heap.size)
include hC hF
theorem dput (kd:Int) (x:Se) (hx0:0≤x.va) (hp:Q.pc<2147483648):Calls Tryz.prog 86 #[.pointer (some ⟨kb,0,none⟩),.int .i64 kd,.agg (sec x)] w (CoTo w kb pb qb F (if sbV Q.rm Q.es x=0 then nextC {Q with es:=sbE Q.rm Q.es x} else Q) (if sbV Q.rm Q.es x=0 then [evC Q kd x.li x.wo x.va] else [])):=by
 have h8:=hC.ok.h8
 have hs:(w.alloc (.cells (sec x) 112)).heap[w.heap.size]? =some (.cells (sec x) 112 (0,0)):=by simp
 have HCH:Chg [] w (w.alloc (.cells (sec x) 112)):=(Chg.refl [] w).alloc _
 have HC1:=Lib.hid (hC.keep0 HCH)
 have hb1:=HC1.out.own
 have HF:=Lib.hid hF
 have HP:=Lib.hid hp
 have HX0:=Lib.hid hx0
 have HPE:=Lib.hid (show ∀e∈sbE Q.rm Q.es x,0≤e.va by
  intro e he
  unfold sbE at he
  split at he
  ·split at he
   ·exact hC.ok.pos.es e he
   ·rcases List.mem_append.1 he with h1|h1
    ·exact hC.ok.pos.es e h1
    ·simp only [List.mem_singleton] at h1;subst h1;exact hx0
  ·exact hC.ok.pos.es e he)
 have HN:=Lib.hid (show w.heap.size≠kb∧w.heap.size≠qb from by have h1:=hC.oldk.lt;have h2:=hC.oldq.lt;omega)
 have HKQ:=Lib.hid hC.kq
 have HS:=Lib.hid (fun h=>sbE_same (room:=Q.rm) (es:=Q.es) (e:=x) h)
 have HPU:=Lib.hid (fun (w':World) (h:Chg [] (w.alloc (.cells (sec x) 112)) w')=>spush_ok x (HC1.out.buf.keep h (by simp)))
 have HC0:=Lib.hid HCH
 clear hC hF hp hx0 HCH
 generalize hw1:w.alloc (.cells (sec x) 112)=w1 at *
 generalize hz:w.heap.size=p at *
 generalize sbV Q.rm Q.es x=sv at *
 generalize sbE Q.rm Q.es x=sE at *
 have ok1:=old hb1
 have op1:=old hs
 have n1:¬p=kb:=HN.out.1
 have n2:¬kb=p:=fun e=>HN.out.1 e.symm
 by_cases h0:sv=0
 ·rw [if_pos h0,if_pos h0]
  subst h0
  go_enter Tryz.func86,Tryz.ntmps86
  go_wp2_with fail
  go_region_held3 (fun w'=>w'.heap[kb]? =some (.cells (coc Q.id Q.ru Q.rg pb Q.pr.length Q.pc qb Q.wt) 98 (0,0))∧w'.heap[p]? =some (.cells (sec x) 112 (0,0)))
   (first |exact ⟨hb1,hs⟩|exact ⟨c4.keep hb1 (by simpa using HKQ.out),c4.keep hs (by simpa using HN.out.2)⟩)
   (first
    |(go_at_call 139;refine (HPU.out _ ((Chg.refl [] w1).drew)).mono ?_;rintro e w4 ⟨rfl,c4,b4⟩))
  all_goals
   rename World=>w4
   rename _∧_=>hHeld
   have hb4:=hHeld.1
   have hs4:=hHeld.2
   have HC4:=Lib.hid ((HC1.out.keep0 ((Chg.refl [] w1).drew)).entries c4 b4 HPE.out)
   have HG4:=Lib.hid ((HC0.out.mono (l':=[kb,pb,qb]) (by simp)).trans (((Chg.refl [kb,pb,qb] w1).drew).trans (c4.mono (by simp))))
   have HF4:=Lib.hid (show ∀k∈F,k<w4.heap.size from fun k h=>by have h1:=HF.out k h;have h2:=HG4.out.size;omega)
   have HZ4:=Lib.hid (show Old w4 p from old hs4)
   clear hHeld c4 b4 hs hb1
   go_wp2_with fail
   refine (cevent hb4 kd x.li x.wo x.va).mono ?_
   rintro e w5 ⟨rfl,c5⟩
   have HC5:=Lib.hid c5
   clear c5
   go_wp2_with fail
   refine (dnext_ev HC4.out HF4.out HC5.out _ HP.out).mono ?_
   rintro e w6 ⟨v,rfl,hv⟩
   go_wp2_with fail
   go_ret
   exact CoTo.from HG4.out ⟨v,rfl,hv⟩
 ·rw [if_neg h0,if_neg h0]
  have hsv:(sv !=0)=true:=by simpa using h0
  have HES:=Lib.hid (HS.out h0)
  clear h0
  go_enter Tryz.func86,Tryz.ntmps86
  go_wp2_with fail
  go_region_held3 (fun w'=>w'.heap[kb]? =some (.cells (coc Q.id Q.ru Q.rg pb Q.pr.length Q.pc qb Q.wt) 98 (0,0))∧w'.heap[p]? =some (.cells (sec x) 112 (0,0)))
   (first |exact ⟨hb1,hs⟩|exact ⟨c4.keep hb1 (by simpa using HKQ.out),c4.keep hs (by simpa using HN.out.2)⟩)
   (first
    |(go_at_call 139;refine (HPU.out _ ((Chg.refl [] w1).drew)).mono ?_;rintro e w4 ⟨rfl,c4,b4⟩))
  all_goals
   rename World=>w4
   rename _∧_=>hHeld
   have HC4:=Lib.hid ((HC1.out.keep0 ((Chg.refl [] w1).drew)).entries c4 b4 HPE.out)
   have HG4:=Lib.hid ((HC0.out.mono (l':=[kb,pb,qb]) (by simp)).trans (((Chg.refl [kb,pb,qb] w1).drew).trans (c4.mono (by simp))))
   clear hHeld c4 b4 hs hb1
   go_wp2_with fail
   go_ret
   refine ⟨_,rfl,EvV.nil ..,?_,HG4.out⟩
   have:=HC4.out
   rw [HES.out] at this
   exact this
end
end
section
attribute [local go_sem ↓] heap_drewN loadMsg storeMsg msc_kd msc_li
attribute [local go_sem] wideMsg msc_size msc_one
section
variable {w:World} {kb pb qb:Nat} {F:List Nat} {Q:Co} (hC:Cor w kb pb qb Q)
include hC
theorem dendFlush:Calls Tryz.prog 51 #[.pointer (some ⟨kb,0,none⟩)] w fun e w'=>e=.returned (.tuple #[])∧Cor w' kb pb qb (if Q.wt=0 then {Q with es:=Q.es.tail} else Q)∧Chg [qb] w w':=by
 have h8:=hC.ok.h8
 have hb:=hC.own
 have HC:=Lib.hid hC
 have hw:((Q.wt:Int)==0)=decide (Q.wt=0):=by rw [Bool.eq_iff_iff];simp
 clear hC
 by_cases h0:Q.wt=0
 ·rw [if_pos h0]
  rw [decide_eq_true h0] at hw
  clear h0
  go_enter Tryz.func51,Tryz.ntmps51
  go_wp2_with (go_at_call 89;refine (spop_ok HC.out.buf).mono ?_;rintro e w2 ⟨rfl,c2,b2⟩)
  go_end0
  exact ⟨rfl,HC.out.entries c2 b2 (fun e he=>HC.out.ok.pos.es e (List.mem_of_mem_tail he)),c2⟩
 ·rw [if_neg h0]
  rw [decide_eq_false h0] at hw
  clear h0
  go_enter Tryz.func51,Tryz.ntmps51
  go_wp2_with fail
  go_end0
  exact ⟨rfl,HC.out,Chg.refl _ _⟩
theorem dchanged (i:Ins) (ha:0≤i.a∧i.a<8) (hc:0≤i.c∧i.c<8) (old':Int):Calls Tryz.prog 141 #[.pointer (some ⟨kb,0,none⟩),.agg (insc i),.int .u64 old'] w fun e w'=>e=.returned (.tuple #[.int .u64 (chgV Q i old'),.bool (chgB Q i old')])∧Chg [] w w':=by
 obtain ⟨na,hna⟩:∃n:Nat,i.a=(n:Int):=⟨i.a.toNat,by omega⟩
 obtain ⟨nc,hnc⟩:∃n:Nat,i.c=(n:Int):=⟨i.c.toNat,by omega⟩
 have ea:regA Q i.a=regN Q.rg na:=by unfold regA;rw [hna,Int.toNat_natCast]
 have ec:regA Q i.c=regN Q.rg nc:=by unfold regA;rw [hnc,Int.toNat_natCast]
 have la:na<8:=by omega
 have lc:nc<8:=by omega
 have la':(na:Int)<8:=by omega
 have lc':(nc:Int)<8:=by omega
 unfold chgV chgB
 rw [ea,ec]
 have h8:=hC.ok.h8
 have hb:=hC.own
 have ob:=old hb
 have hx:(w.alloc (.cells (insc i) 33)).heap[w.heap.size]? =some (.cells (insc i) 33 (0,0)):=by simp
 have HCH:Chg [] w (w.alloc (.cells (insc i) 33)):=(Chg.refl [] w).alloc _
 have hb1:=HCH.keep hb (by simp)
 have HC1:=Lib.hid HCH
 clear hC ha hc ea ec HCH
 generalize hw1:w.alloc (.cells (insc i) 33)=w1 at hx hb1 HC1
 generalize hz:w.heap.size=p at hx
 have ob1:=old hb1
 have ox1:=old hx
 by_cases h0:i.op=10
 ·rw [if_pos h0,if_pos h0]
  go_enter Tryz.func141,Tryz.ntmps141
  go_wp2_with fail
  go_quiet (fail)
  go_wp2_with fail
  go_ret2
  exact ⟨rfl,HC1.out.drewN _⟩
 ·rw [if_neg h0,if_neg h0]
  have h10:(i.op==10)=false:=by simpa using h0
  clear h0
  go_enter Tryz.func141,Tryz.ntmps141
  go_wp2_with fail
  go_quiet (fail)
  go_wp2_with fail
  go_ret2
  exact ⟨rfl,HC1.out.drewN _⟩
theorem dhear (hF:∀k∈F,k<w.heap.size) (m:Ms):Calls Tryz.prog 21 #[.pointer (some ⟨kb,0,none⟩),.agg (msc m)] w (CoTo w kb pb qb F (hearC Q m).1 (hearC Q m).2):=by
 have h8:=hC.ok.h8
 have hb:=hC.own
 have ob:=old hb
 have hx:(w.alloc (.cells (msc m) 50)).heap[w.heap.size]? =some (.cells (msc m) 50 (0,0)):=by simp
 have HCH:Chg [] w (w.alloc (.cells (msc m) 50)):=(Chg.refl [] w).alloc _
 have HC:=Lib.hid (hC.keep0 HCH)
 have hb1:=HC.out.own
 have HC1:=Lib.hid HCH
 have HF:=Lib.hid hF
 have HWT:=Lib.hid hC.ok.wt
 clear hC HCH hF hb
 generalize hw1:w.alloc (.cells (msc m) 50)=w1 at hx hb1 HC1 HC
 generalize hz:w.heap.size=p at hx HF
 have ob1:=old hb1
 have ox1:=old hx
 have n1:¬p=kb:=by have:=ob.lt;omega
 by_cases h0:Q.wt=0
 ·rw [show hearC Q m=(Q,[]) by unfold hearC;rw [if_pos (.inl h0)]]
  have hw:((Q.wt:Int)==0)=true:=by simp [h0]
  clear h0
  go_enter Tryz.func21,Tryz.ntmps21
  go_wp2_with (go_at_call 22;refine (cwaits h8 hb1).mono ?_;rintro e w' ⟨rfl,rfl⟩)
  go_ret
  exact ⟨_,rfl,EvV.nil ..,HC.out,HC1.out.mono (by simp)⟩
 have hw:((Q.wt:Int)==0)=false:=by simp [h0]
 by_cases h1:m.kd=14
 ·rw [show hearC Q m=({Q with wt:=Q.wt-1},[evC Q 6 m.li 0 0]) by unfold hearC;rw [if_neg (fun h=>h.elim h0 (fun h=>h h1))]]
  have HW0:=Lib.hid h0
  have hk:(m.kd !=14)=false:=by simp [h1]
  have hwt:(Q.wt:Int)-1=((Q.wt-1:Nat):Int):=by omega
  have HB2:=Lib.hid (show (w1.setCell ⟨kb,13,none⟩ (.int .i64 ((Q.wt-1:Nat):Int))).heap[kb]? =some (.cells (coc Q.id Q.ru Q.rg pb Q.pr.length Q.pc qb ((Q.wt-1:Nat):Int)) 98 (0,0)) by rw [heap_setCell,if_pos rfl,hb1,rowSet_some,coc_setWt h8])
  have hr1: -9223372036854775808≤(Q.wt:Int)-1:=by omega
  have hr2:(Q.wt:Int)-1≤9223372036854775807:=by have:=HWT.out;omega
  clear h0 h1
  go_enter Tryz.func21,Tryz.ntmps21
  go_wp2_with (go_at_call 22;refine (cwaits h8 hb1).mono ?_;rintro e w' ⟨rfl,rfl⟩)
  have HZ2:=Lib.hid (show (w1.setCell ⟨kb,13,none⟩ (.int .i64 ((Q.wt-1:Nat):Int))).heap.size=w1.heap.size by simp)
  have hx2:(w1.setCell ⟨kb,13,none⟩ (.int .i64 ((Q.wt-1:Nat):Int))).heap[p]? =some (.cells (msc m) 50 (0,0)):=by rw [heap_setCell,if_neg n1];exact hx
  have HG2:=Lib.hid ((Chg.refl [kb] w1).setCell kb 13 (.int .i64 ((Q.wt-1:Nat):Int)) (.inl (by simp)))
  generalize w1.setCell ⟨kb,13,none⟩ (.int .i64 ((Q.wt-1:Nat):Int))=w2 at HB2 hx2 HG2 HZ2 ⊢
  have HC2:=Lib.hid (show Cor w2 kb pb qb {Q with wt:=Q.wt-1} from ⟨HB2.out,HC.out.steps.keep HG2.out (by simp [HC.out.kp.symm]),HC.out.buf.keep HG2.out (by simp [HC.out.kq.symm]),HC.out.kp,HC.out.kq,HC.out.pq,⟨HC.out.ok.h8,HC.out.ok.pc,HC.out.ok.np,HC.out.ok.pr,by show Q.wt-1≤16;have:=HWT.out;omega,HC.out.ok.id,⟨HC.out.ok.pos.rg,HC.out.ok.pos.es⟩⟩⟩)
  clear hb1 hx ob1 ox1 hwt hr1 hr2
  refine (cevent HB2.out 6 m.li 0 0).mono ?_
  rintro e w3 ⟨rfl,c3⟩
  have HC3:=Lib.hid c3
  clear c3
  go_wp2_with fail
  go_ret
  have hs:=HC3.out.size
  have hk:=HC2.out.oldk.lt
  have hsz:=HC1.out.size
  have hzz:=HZ2.out
  have c4:Chg [] w2 (w3.alloc (.cells (evc ⟨6,Q.id,m.li,0,0⟩) 45)):=HC3.out.alloc _
  refine ⟨_,rfl,EvV.one (by simp;rfl) (by omega) (by omega) (fun h=>by have:=HF.out _ h;omega),HC2.out.keep0 c4,?_⟩
  exact ((HC1.out.mono (by simp)).trans (HG2.out.mono (by simp))).trans (c4.mono (by simp))
 ·rw [show hearC Q m=(Q,[]) by unfold hearC;rw [if_pos (.inr h1)]]
  have hk:(m.kd !=14)=true:=by simp [h1]
  clear h0 h1
  go_enter Tryz.func21,Tryz.ntmps21
  go_wp2_with (go_at_call 22;refine (cwaits h8 hb1).mono ?_;rintro e w' ⟨rfl,rfl⟩)
  go_ret
  exact ⟨_,rfl,EvV.nil ..,HC.out,HC1.out.mono (by simp)⟩
end
end
section
attribute [local go_sem ↓] heap_drewN
structure CS (W w:World) (c:Cg) (sy:Nat) (F:List Nat) (S:Mst) (kb pb qb:Nat) (Q:Co):Prop where
 ms:MS W w c sy F S
 co:Cor w kb pb qb Q
 nk:kb∉F
 np:pb∉F
 nq:qb∉F
 lk:W.heap.size≤kb
 lp:W.heap.size≤pb
 lq:W.heap.size≤qb
def CSTo (W w:World) (c:Cg) (sy:Nat) (F:List Nat) (kb pb qb:Nat) (S':Mst) (Q':Co) (l:List Ev) (e:Ending) (w':World):Prop:=
 ∃v F',e=.returned v∧EvV w' w.heap.size kb F' v l∧CS W w' c sy F' S' kb pb qb Q'∧Chg (kb::pb::qb::F) w w'∧∀k∈F',k∈F∨w.heap.size≤k
section
variable {W w:World} {c:Cg} {sy:Nat} {F:List Nat} {S:Mst} {kb pb qb:Nat} {Q:Co} (h:CS W w c sy F S kb pb qb Q)
include h
theorem CS.old:∀k∈F,k<w.heap.size:=Mem.old h.ms
theorem CS.keep0 {w':World} (hc:Chg [] w w'):CS W w' c sy F S kb pb qb Q:=⟨Mem.keep h.ms hc,h.co.keep0 hc,h.nk,h.np,h.nq,h.lk,h.lp,h.lq⟩
theorem CS.core {w':World} {Q':Co} (hc:Chg [kb,pb,qb] w w') (hC:Cor w' kb pb qb Q'):CS W w' c sy F S kb pb qb Q':=
 ⟨Mem.keepL h.ms hc (by
  intro k hk
  simp only [List.mem_cons,List.not_mem_nil,or_false] at hk
  rcases hk with rfl|rfl|rfl
  ·exact h.nk
  ·exact h.np
  ·exact h.nq) (by
  intro k hk
  simp only [List.mem_cons,List.not_mem_nil,or_false] at hk
  rcases hk with rfl|rfl|rfl
  ·exact h.lk
  ·exact h.lp
  ·exact h.lq),hC,h.nk,h.np,h.nq,h.lk,h.lp,h.lq⟩
theorem CS.ofCo {Q':Co} {l:List Ev} {e:Ending} {w':World} (hd:CoTo w kb pb qb F Q' l e w'):CSTo W w c sy F kb pb qb S Q' l e w':=by
 obtain ⟨v,he,h1,h2,h3⟩:=hd
 exact ⟨v,F,he,h1,h.core h3 h2,h3.mono (by intro x hx;left;simp only [List.mem_cons,List.not_mem_nil,or_false] at hx ⊢;rcases hx with rfl|rfl|rfl<;>simp),fun k hk=>.inl hk⟩
theorem CS.step {S':Mst} {w':World} (m:MTS W w c sy F S' w'):∃F',CS W w' c sy F' S' kb pb qb Q∧Chg F w w'∧∀k∈F',k∈F∨w.heap.size≤k:=by
 obtain ⟨F',hm,hc,hk⟩:=m
 have ne:∀b,b∉F→b<w.heap.size→b∉F':=fun b hb hl hm=>by
  rcases hk b hm with h1|h1
  ·exact hb h1
  ·omega
 exact ⟨F',⟨hm,h.co.keep hc h.nk h.np h.nq,ne _ h.nk h.co.oldk.lt,ne _ h.np h.co.oldp.lt,ne _ h.nq h.co.oldq.lt,h.lk,h.lp,h.lq⟩,hc,hk⟩
end
theorem CSTo.from {W w w4:World} {c:Cg} {sy:Nat} {F F4:List Nat} {kb pb qb:Nat} {S':Mst} {Q':Co} {l:List Ev} {e:Ending} {w':World} (hc:Chg (kb::pb::qb::F) w w4) (hF:∀k∈F4,k∈F∨w.heap.size≤k) (h:CSTo W w4 c sy F4 kb pb qb S' Q' l e w'):CSTo W w c sy F kb pb qb S' Q' l e w':=by
 obtain ⟨v,F',he,h1,h2,h3,h4⟩:=h
 refine ⟨v,F',he,evv_mono h1 hc.size,h2,hc.trans' h3 ?_,?_⟩
 ·intro x hx
  simp only [List.mem_cons] at hx ⊢
  rcases hx with rfl|rfl|rfl|hx
  ·simp
  ·simp
  ·simp
  ·rcases hF x hx with h5|h5
   ·exact .inl (.inr (.inr (.inr h5)))
   ·exact .inr h5
 ·intro k hk
  rcases h4 k hk with h5|h5
  ·exact hF k h5
  ·exact .inr (Nat.le_trans hc.size h5)
theorem chg_core {kb pb qb:Nat} {F:List Nat} {w w':World} (hc:Chg [kb,pb,qb] w w'):Chg (kb::pb::qb::F) w w':=hc.mono (by intro x hx;left;simp only [List.mem_cons,List.not_mem_nil,or_false] at hx ⊢;rcases hx with rfl|rfl|rfl<;>simp)
theorem chg_sys {kb pb qb:Nat} {F:List Nat} {w w':World} (hc:Chg F w w'):Chg (kb::pb::qb::F) w w':=hc.mono (by intro x hx;left;simp [hx])
theorem Cor.setReg {w:World} {kb pb qb:Nat} {Q:Co} (h:Cor w kb pb qb Q) {a:Nat} (ha:a<8) {v:Int} (hv:0≤v):Cor (w.setCell ⟨kb,2+a,none⟩ (.int .u64 v)) kb pb qb (setR Q a v):=by
 have hc:=(Chg.refl [kb] w).setCell kb (2+a) (.int .u64 v) (.inl (by simp))
 refine ⟨?_,h.steps.keep hc (by simp [h.kp.symm]),h.buf.keep hc (by simp [h.kq.symm]),h.kp,h.kq,h.pq,⟨by show (Q.rg.set _ v).length=8;rw [List.length_set];exact h.ok.h8,h.ok.pc,h.ok.np,h.ok.pr,h.ok.wt,h.ok.id,h.ok.pos.setR a hv⟩⟩
 rw [heap_setCell,if_pos rfl,h.own,rowSet_some,coc_setReg h.ok.h8 _ _ _ _ _ _ _ ha]
 rfl
section
variable {W w:World} {c:Cg} {sy n:Nat} {F:List Nat} {S:Mst} {cur:Nat→List Int} {kb pb qb:Nat} {Q:Co} (h:CS W w c sy F S kb pb qb Q) (hI:Inv c n S cur) (hN:NN cur) (hn:n≤1000000000) (hR:Roomy c S) (hT:Tab W)
include h hI hN hn hR hT
theorem eload (a:Int) (ha:0≤a∧a<8) (li wo:Int) (hp:Q.pc<2147483648):Calls Tryz.prog 85 #[.pointer (some ⟨kb,0,none⟩),.pointer (some ⟨sy,0,none⟩),.int .i64 a,.int .i64 li,.int .i64 wo] w (CSTo W w c sy F kb pb qb (loadC c S Q a li wo).S (loadC c S Q a li wo).Q (loadC c S Q a li wo).ev):=by
 obtain ⟨na,rfl⟩:∃n:Nat,a=(n:Int):=⟨a.toNat,by omega⟩
 have la:na<8:=by omega
 have la':(na:Int)<8:=by omega
 have h8:=h.co.ok.h8
 have hb:=h.co.own
 have H:=Lib.hid h
 have HP:=Lib.hid hp
 have SF:=Lib.hid (sfind_ok li wo h.co.buf)
 unfold loadC
 cases hf:fdO Q.es li wo with
 |some x=>
  have hv0:0≤x.va:=h.co.ok.pos.es x (fdO_mem hf)
  have HV:=Lib.hid hv0
  rw [show fdV Q.es li wo=x.va by unfold fdV;rw [hf],show fdB Q.es li wo=true by unfold fdB;rw [hf];rfl] at SF
  show Calls _ _ _ _ (CSTo W w c sy F kb pb qb S (nextC (setR Q na x.va)) [evC Q 2 li wo x.va])
  clear h hI hN hn hR hT hf hv0 ha hp
  generalize x.va=v at *
  go_enter Tryz.func85,Tryz.ntmps85
  try dsimp only [List.append]
  go_wp2_with (go_at_call 137;refine SF.out.mono ?_;rintro e w1 ⟨rfl,c1⟩;have hb1:=c1.keep hb (by simp);have H1:=Lib.hid (H.out.keep0 c1);have HC1:=Lib.hid (show Chg (kb::pb::qb::F) w w1 from c1.mono (by simp));have HF1:=Lib.hid (show ∀k∈F,k∈F∨w.heap.size≤k from fun k hk=>.inl hk);clear c1 hb)
  have HCO:=Lib.hid (H1.out.co.setReg la HV.out)
  refine (cevent HCO.out.own 2 li wo v).mono ?_
  rintro e w3 ⟨rfl,c3⟩
  have HC3:=Lib.hid c3
  clear c3
  go_wp2_with fail
  refine (dnext_ev HCO.out (F:=F) (fun k hk=>by have:=H1.out.old k hk;simp;omega) HC3.out _ HP.out).mono ?_
  rintro e w4 ⟨u,rfl,hv⟩
  go_wp2_with fail
  go_ret
  exact CSTo.from HC1.out HF1.out (H1.out.ofCo (CoTo.from ((Chg.refl [kb,pb,qb] w1).setCell kb (2+na) (.int .u64 v) (.inl (by simp))) ⟨u,rfl,hv⟩))
 |none=>
  rw [show fdV Q.es li wo=0 by unfold fdV;rw [hf],show fdB Q.es li wo=false by unfold fdB;rw [hf];rfl] at SF
  have UL:=Lib.hid (fun (w1:World) (c1:Chg [] w w1)=>uload (h.keep0 c1).ms hI hn hR hT Q.id li wo)
  have HV0:=Lib.hid (fun hh=>NN.load hI hN (k:=Q.id) (li:=li) (wd:=wo) hh)
  dsimp only
  generalize (loadM c S Q.id li wo).1=S1 at *
  generalize (loadM c S Q.id li wo).2.v=v at *
  generalize (loadM c S Q.id li wo).2.hit=hit at *
  cases hit
  ·show Calls _ _ _ _ (CSTo W w c sy F kb pb qb S1 Q [])
   clear h hI hN hn hR hT hf ha hp
   go_enter Tryz.func85,Tryz.ntmps85
   try dsimp only [List.append]
   go_wp2_with (first |(go_at_call 137;refine SF.out.mono ?_;rintro e w1 ⟨rfl,c1⟩;have hb1:=c1.keep hb (by simp);have HC1:=Lib.hid c1;clear c1 hb)|(go_at_call 138;refine (UL.out _ HC1.out).mono ?_;rintro e w2 ⟨rfl,m2⟩;have HM2:=Lib.hid m2;clear m2))
   go_ret
   obtain ⟨F2,h2,c2,k2⟩:=(H.out.keep0 HC1.out).step HM2.out
   exact CSTo.from (F4:=F2) ((HC1.out.mono (by simp)).trans (chg_sys c2)) (fun k hk=>(k2 k hk).imp id (Nat.le_trans HC1.out.size)) ⟨_,F2,rfl,EvV.nil ..,h2,Chg.refl _ _,fun k hk=>.inl hk⟩
  ·have HV:=Lib.hid (HV0.out rfl)
   show Calls _ _ _ _ (CSTo W w c sy F kb pb qb S1 (nextC (setR Q na v)) [evC Q 1 li wo v])
   clear h hI hN hn hR hT hf ha hp
   go_enter Tryz.func85,Tryz.ntmps85
   try dsimp only [List.append]
   go_wp2_with (first |(go_at_call 137;refine SF.out.mono ?_;rintro e w0 ⟨rfl,c1⟩;have hb1:=c1.keep hb (by simp);have HC0:=Lib.hid c1;clear c1 hb)|(go_at_call 138;refine (UL.out _ HC0.out).mono ?_;rintro e w1 ⟨rfl,m2⟩;obtain ⟨F2,h2,c2,k2⟩:=(H.out.keep0 HC0.out).step m2;have hb2:=h2.co.own;have H1:=Lib.hid h2;have HC1:=Lib.hid (show Chg (kb::pb::qb::F) w w1 from (HC0.out.mono (by simp)).trans (chg_sys c2));have HF1:=Lib.hid (show ∀k∈F2,k∈F∨w.heap.size≤k from fun k hk=>(k2 k hk).imp id (Nat.le_trans HC0.out.size));clear m2 h2 c2 k2 hb1))
   have HCO:=Lib.hid (H1.out.co.setReg la HV.out)
   refine (cevent HCO.out.own 1 li wo v).mono ?_
   rintro e w3 ⟨rfl,c3⟩
   have HC3:=Lib.hid c3
   clear c3
   go_wp2_with fail
   refine (dnext_ev HCO.out (F:=F2) (fun k hk=>by have:=H1.out.old k hk;simp;omega) HC3.out _ HP.out).mono ?_
   rintro e w4 ⟨u,rfl,hv⟩
   go_wp2_with fail
   go_ret
   exact CSTo.from HC1.out HF1.out (H1.out.ofCo (CoTo.from ((Chg.refl [kb,pb,qb] w1).setCell kb (2+na) (.int .u64 v) (.inl (by simp))) ⟨u,rfl,hv⟩))
end
end
section
attribute [local go_sem ↓] heap_drewN
theorem casked (kd:Int) (w:World):Calls Tryz.prog 91 #[.int .i64 kd] w fun e w'=>e=.returned (.int .i64 (askedK kd))∧w=w':=by
 unfold askedK
 by_cases h:kd=12
 ·rw [if_pos h]
  subst h
  go_enter Tryz.func91,Tryz.ntmps91
  go_wp2
  go_ret
  exact ⟨rfl,rfl⟩
 ·rw [if_neg h]
  have h1:(kd==12)=false:=by simpa using h
  clear h
  go_enter Tryz.func91,Tryz.ntmps91
  go_wp2
  go_ret
  exact ⟨rfl,rfl⟩
theorem Cor.setWt {w:World} {kb pb qb:Nat} {Q:Co} (h:Cor w kb pb qb Q) {n:Nat} {v:Int} (hv:v=n) (hn:n≤16):Cor (w.setCell ⟨kb,13,none⟩ (.int .i64 v)) kb pb qb {Q with wt:=n}:=by
 subst hv
 have hc:=(Chg.refl [kb] w).setCell kb 13 (.int .i64 n) (.inl (by simp))
 refine ⟨?_,h.steps.keep hc (by simp [h.kp.symm]),h.buf.keep hc (by simp [h.kq.symm]),h.kp,h.kq,h.pq,⟨h.ok.h8,h.ok.pc,h.ok.np,h.ok.pr,hn,h.ok.id,⟨h.ok.pos.rg,h.ok.pos.es⟩⟩⟩
 rw [heap_setCell,if_pos rfl,h.own,rowSet_some,coc_setWt h.ok.h8]
section
variable {W w:World} {c:Cg} {sy n:Nat} {F:List Nat} {S:Mst} {cur:Nat→List Int} {kb pb qb:Nat} {Q:Co} (h:CS W w c sy F S kb pb qb Q) (hI:Inv c n S cur) (hn:n≤1000000000) (hR:Roomy c S) (hT:Tab W) {x:Se} {rest:List Se} (hes:Q.es=x::rest)
include h hI hn hR hT hes
theorem estore:Calls Tryz.prog 50 #[.pointer (some ⟨kb,0,none⟩),.pointer (some ⟨sy,0,none⟩),.agg (sec x)] w (CSTo W w c sy F kb pb qb (storeM c S Q.id x.li x.wo x.va).1 (if (storeM c S Q.id x.li x.wo x.va).2.hit then {Q with es:=rest} else Q) (if (storeM c S Q.id x.li x.wo x.va).2.hit then [evC Q 3 x.li x.wo x.va] else [])):=by
 have hs:(w.alloc (.cells (sec x) 112)).heap[w.heap.size]? =some (.cells (sec x) 112 (0,0)):=by simp
 have HCH:Chg [] w (w.alloc (.cells (sec x) 112)):=(Chg.refl [] w).alloc _
 have HN:=Lib.hid (show w.heap.size≠kb∧w.heap.size∉F∧w.heap.size≠qb from ⟨by have:=h.co.oldk.lt;omega,fun hm=>by have:=h.old _ hm;omega,by have:=h.co.oldq.lt;omega⟩)
 have H1:=Lib.hid (h.keep0 HCH)
 have hb1:=H1.out.co.own
 have h8:=h.co.ok.h8
 have US:=Lib.hid (fun (w':World) (c1:Chg [] (w.alloc (.cells (sec x) 112)) w')=>ustore (H1.out.keep0 c1).ms hI hn hR hT Q.id x.li x.wo x.va)
 have HES:=Lib.hid hes
 have HPE:=Lib.hid (show ∀e∈rest,0≤e.va from fun e he=>h.co.ok.pos.es e (by rw [hes];exact List.mem_cons_of_mem _ he))
 have HC1:=Lib.hid HCH
 clear h hI hn hR hT hes HCH
 generalize hw1:w.alloc (.cells (sec x) 112)=w1 at *
 generalize hz:w.heap.size=p at *
 generalize (storeM c S Q.id x.li x.wo x.va).1=S1 at *
 generalize (storeM c S Q.id x.li x.wo x.va).2.hit=hit at *
 have ok1:=old hb1
 have op1:=old hs
 have n1:¬p=kb:=HN.out.1
 have n2:¬kb=p:=fun e=>HN.out.1 e.symm
 cases hit
 ·show Calls _ _ _ _ (CSTo W w c sy F kb pb qb S1 Q [])
  go_enter Tryz.func50,Tryz.ntmps50
  go_wp2_with fail
  go_region_held3 (fun w'=>w'.heap[kb]? =some (.cells (coc Q.id Q.ru Q.rg pb Q.pr.length Q.pc qb Q.wt) 98 (0,0))∧w'.heap[p]? =some (.cells (sec x) 112 (0,0)))
   (first |exact ⟨hb1,hs⟩|exact ⟨h4.co.own,c4.keep hs HN.out.2.1⟩)
   (first
    |(go_at_call 88;refine (US.out _ ((Chg.refl [] w1).drew)).mono ?_;rintro e w4 ⟨rfl,m4⟩;obtain ⟨F4,h4,c4,k4⟩:=(H1.out.keep0 ((Chg.refl [] w1).drew)).step m4))
  all_goals
   rename World=>w4
   rename _∧_=>hHeld
   have H4:=Lib.hid h4
   have HG4:=Lib.hid (show Chg (kb::pb::qb::F) w w4 from (HC1.out.mono (by simp)).trans (((Chg.refl _ w1).drew).trans (chg_sys c4)))
   have HK4:=Lib.hid (show ∀k∈F4,k∈F∨w.heap.size≤k from fun k hk=>(k4 k hk).imp id (Nat.le_trans HC1.out.size))
   clear hHeld c4 h4 k4 m4 hs hb1
   go_wp2_with fail
   go_ret
   exact CSTo.from HG4.out HK4.out ⟨_,F4,rfl,EvV.nil ..,H4.out,Chg.refl _ _,fun k hk=>.inl hk⟩
 ·show Calls _ _ _ _ (CSTo W w c sy F kb pb qb S1 {Q with es:=rest} [evC Q 3 x.li x.wo x.va])
  go_enter Tryz.func50,Tryz.ntmps50
  go_wp2_with fail
  go_region_held3 (fun w'=>w'.heap[kb]? =some (.cells (coc Q.id Q.ru Q.rg pb Q.pr.length Q.pc qb Q.wt) 98 (0,0))∧w'.heap[p]? =some (.cells (sec x) 112 (0,0)))
   (first |exact ⟨hb1,hs⟩|exact ⟨h4.co.own,c4.keep hs HN.out.2.1⟩)
   (first
    |(go_at_call 88;refine (US.out _ ((Chg.refl [] w1).drew)).mono ?_;rintro e w4 ⟨rfl,m4⟩;obtain ⟨F4,h4,c4,k4⟩:=(H1.out.keep0 ((Chg.refl [] w1).drew)).step m4))
  all_goals
   rename World=>w4
   rename _∧_=>hHeld
   have hb4:=hHeld.1
   have hs4:=hHeld.2
   have H4:=Lib.hid h4
   have HG4:=Lib.hid (show Chg (kb::pb::qb::F) w w4 from (HC1.out.mono (by simp)).trans (((Chg.refl _ w1).drew).trans (chg_sys c4)))
   have HK4:=Lib.hid (show ∀k∈F4,k∈F∨w.heap.size≤k from fun k hk=>(k4 k hk).imp id (Nat.le_trans HC1.out.size))
   clear hHeld c4 h4 k4 m4 hs hb1
   go_wp2_with fail
   refine (spop_ok H4.out.co.buf).mono ?_
   rintro e w5 ⟨rfl,c5,b5⟩
   rw [show Q.es.tail=rest by rw [HES.out];rfl] at b5
   have HC5:=Lib.hid (H4.out.co.entries c5 b5 HPE.out)
   have HG5:=Lib.hid c5
   have hb5:=HC5.out.own
   have hs5:=c5.keep hs4 (by simpa using HN.out.2.2)
   clear c5 b5 hb4 hs4
   go_wp2_with fail
   refine (cevent hb5 3 x.li x.wo x.va).mono ?_
   rintro e w6 ⟨rfl,c6⟩
   have HC6:=Lib.hid c6
   clear c6
   go_wp2_with fail
   go_ret
   have c7:Chg [] w5 (w6.alloc (.cells (evc ⟨3,Q.id,x.li,x.wo,x.va⟩) 45)):=HC6.out.alloc _
   have hk:=H4.out.co.oldk.lt
   have hs:=HC6.out.size
   have hg:=HG5.out.size
   refine CSTo.from HG4.out HK4.out (H4.out.ofCo (CoTo.from (HG5.out.mono (by simp)) ⟨_,rfl,EvV.one (by simp;rfl) (by omega) hs (fun hm=>by have:=H4.out.old _ hm;omega),HC5.out.keep0 c7,c7.mono (by simp)⟩))
theorem esend:Calls Tryz.prog 52 #[.pointer (some ⟨kb,0,none⟩),.pointer (some ⟨sy,0,none⟩),.agg (sec x)] w (CSTo W w c sy F kb pb qb (if 16≤Q.wt then S else (flushM c S Q.id x.li (askedK x.kd)).1) (if 16≤Q.wt then Q else if (flushM c S Q.id x.li (askedK x.kd)).2.e=0 then {Q with es:=(if x.kd=14 then sent x::rest else rest),wt:=Q.wt+1} else Q) (if 16≤Q.wt then [] else if (flushM c S Q.id x.li (askedK x.kd)).2.e=0 then [evC Q 13 x.li 0 0] else [])):=by
 have hs:(w.alloc (.cells (sec x) 112)).heap[w.heap.size]? =some (.cells (sec x) 112 (0,0)):=by simp
 have HCH:Chg [] w (w.alloc (.cells (sec x) 112)):=(Chg.refl [] w).alloc _
 have HN:=Lib.hid (show w.heap.size≠kb∧w.heap.size∉F∧w.heap.size≠qb from ⟨by have:=h.co.oldk.lt;omega,fun hm=>by have:=h.old _ hm;omega,by have:=h.co.oldq.lt;omega⟩)
 have H1:=Lib.hid (h.keep0 HCH)
 have hb1:=H1.out.co.own
 have h8:=h.co.ok.h8
 have US:=Lib.hid (fun (w':World) (c1:Chg [] (w.alloc (.cells (sec x) 112)) w')=>uflush (H1.out.keep0 c1).ms hI hn hR hT Q.id x.li (askedK x.kd))
 have HES:=Lib.hid hes
 have HPE:=Lib.hid (show ∀e∈rest,0≤e.va from fun e he=>h.co.ok.pos.es e (by rw [hes];exact List.mem_cons_of_mem _ he))
 have HPX:=Lib.hid (show 0≤x.va from h.co.ok.pos.es x (by rw [hes];exact List.mem_cons_self))
 have HC1:=Lib.hid HCH
 have hwt:decide (16≤(Q.wt:Int))=decide (16≤Q.wt):=by rw [Bool.eq_iff_iff];simp;omega
 clear h hI hn hR hT hes HCH
 generalize hw1:w.alloc (.cells (sec x) 112)=w1 at *
 generalize hz:w.heap.size=p at *
 generalize (flushM c S Q.id x.li (askedK x.kd)).1=S1 at *
 generalize (flushM c S Q.id x.li (askedK x.kd)).2.e=fe at *
 generalize hwi:(Q.wt:Int)=wi at hb1 hwt
 have HWI:=Lib.hid hwi
 clear hwi
 have ok1:=old hb1
 have op1:=old hs
 have n1:¬p=kb:=HN.out.1
 have n2:¬kb=p:=fun e=>HN.out.1 e.symm
 by_cases h16:16≤Q.wt
 ·rw [if_pos h16,if_pos h16,if_pos h16]
  rw [decide_eq_true h16] at hwt
  clear h16
  go_enter Tryz.func52,Tryz.ntmps52
  try dsimp only [List.append]
  go_wp2_with fail
  go_quiet (fail)
  go_wp2_with fail
  go_ret
  have hc:=HC1.out.drewN nq
  exact ⟨_,F,rfl,EvV.nil ..,H1.out.keep0 ((Chg.refl [] w1).drewN nq),hc.mono (by simp),fun k hk=>.inl hk⟩
 ·rw [if_neg h16,if_neg h16,if_neg h16]
  rw [decide_eq_false h16] at hwt
  have H16:=Lib.hid h16
  clear h16
  by_cases hf:fe=0
  ·subst hf
   rw [if_pos rfl,if_pos rfl]
   generalize hE:(if x.kd=14 then sent x::rest else rest)=es'
   have HE:=Lib.hid hE
   clear hE
   have HW:=Lib.hid (show Q.wt+1≤16 by have:=H16.out;omega)
   have hr1: -9223372036854775808≤wi+1:=by have:=HWI.out;omega
   have hr2:wi+1≤9223372036854775807:=by have:=HW.out;have:=HWI.out;omega
   go_enter Tryz.func52,Tryz.ntmps52
   try dsimp only [List.append]
   go_wp2_with fail
   go_region_held3 (fun w'=>w'.heap[kb]? =some (.cells (coc Q.id Q.ru Q.rg pb Q.pr.length Q.pc qb wi) 98 (0,0))∧w'.heap[p]? =some (.cells (sec x) 112 (0,0)))
    (first |exact ⟨hb1,hs⟩|exact ⟨(by rw [←HWI.out];exact h4.co.own),c4.keep hs HN.out.2.1⟩)
    (first
     |(go_at_call 91;refine (casked x.kd _).mono ?_;rintro e w' ⟨rfl,rfl⟩)
     |(go_at_call 90;refine (US.out _ ((Chg.refl [] w1).drew)).mono ?_;rintro e w4 ⟨rfl,m4⟩;obtain ⟨F4,h4,c4,k4⟩:=(H1.out.keep0 ((Chg.refl [] w1).drew)).step m4))
   all_goals
    rename World=>w4
    rename _∧_=>hHeld
    have hb4:=hHeld.1
    have hs4:=hHeld.2
    have H4:=Lib.hid h4
    have HG4:=Lib.hid (show Chg (kb::pb::qb::F) w w4 from (HC1.out.mono (by simp)).trans (((Chg.refl _ w1).drew).trans (chg_sys c4)))
    have HK4:=Lib.hid (show ∀k∈F4,k∈F∨w.heap.size≤k from fun k hk=>(k4 k hk).imp id (Nat.le_trans HC1.out.size))
    clear hHeld c4 h4 k4 m4 hs hb1
    have HC5:=Lib.hid (H4.out.co.setWt (show wi+1=((Q.wt+1:Nat):Int) by have:=HWI.out;omega) HW.out)
    have HG5:=Lib.hid ((Chg.refl [kb] w4).setCell kb 13 (.int .i64 (wi+1)) (.inl (by simp)))
    have hs5:(w4.setCell ⟨kb,13,none⟩ (.int .i64 (wi+1))).heap[p]? =some (.cells (sec x) 112 (0,0)):=HG5.out.keep hs4 (by simpa using n1)
    have hb5:=HC5.out.own
    have o5:=old hs5
    have ok5:=old hb5
    generalize hw5:w4.setCell ⟨kb,13,none⟩ (.int .i64 (wi+1))=w5 at *
    by_cases h14:x.kd=14
    ·have HE':=HE.out
     rw [if_pos h14] at HE'
     subst HE'
     have hk14:(x.kd==14)=true:=by simp [h14]
     have HSD:=Lib.hid (show sdE Q.es=sent x::rest by rw [HES.out];show (if x.kd=14 then _ else _)=_;rw [if_pos h14])
     clear h14
     go_wp2_with fail
     refine (ssend_ok HC5.out.buf).mono ?_
     rintro e w6 ⟨rfl,c6,b6⟩
     have HSD':=HSD.out
     rw [show ({Q with wt:=Q.wt+1}:Co).es=Q.es from rfl,HSD'] at b6
     have HC6:=Lib.hid (HC5.out.entries c6 b6 (fun e he=>(List.mem_cons.1 he).elim (fun h1=>h1▸HPX.out) (fun h1=>HPE.out e h1)))
     have HG6:=Lib.hid c6
     have hb6:=HC6.out.own
     have hs6:=c6.keep hs5 (by simpa using HN.out.2.2)
     clear c6 b6 hb4 hs4 hb5 hs5 hw5
     go_wp2_with fail
     refine (cevent hb6 13 x.li 0 0).mono ?_
     rintro e w7 ⟨rfl,c7⟩
     have HC7:=Lib.hid c7
     clear c7
     go_wp2_with fail
     go_ret
     have c8:Chg [] w6 (w7.alloc (.cells (evc ⟨13,Q.id,x.li,0,0⟩) 45)):=HC7.out.alloc _
     have hk:=H4.out.co.oldk.lt
     have hsz:=HC7.out.size
     have hg:=HG6.out.size
     have hg5:=HG5.out.size
     refine CSTo.from HG4.out HK4.out (H4.out.ofCo (CoTo.from ((HG5.out.mono (by simp)).trans (HG6.out.mono (by simp))) ⟨_,rfl,EvV.one (by simp;rfl) (by omega) hsz (fun hm=>by have:=H4.out.old _ hm;omega),HC6.out.keep0 c8,c8.mono (by simp)⟩))
    ·have HE':=HE.out
     rw [if_neg h14] at HE'
     subst HE'
     have hk14:(x.kd==14)=false:=by simp [h14]
     have HSD:=Lib.hid (show Q.es.tail=rest by rw [HES.out];rfl)
     clear h14
     go_wp2_with fail
     refine (spop_ok HC5.out.buf).mono ?_
     rintro e w6 ⟨rfl,c6,b6⟩
     have HSD':=HSD.out
     rw [show ({Q with wt:=Q.wt+1}:Co).es=Q.es from rfl,HSD'] at b6
     have HC6:=Lib.hid (HC5.out.entries c6 b6 HPE.out)
     have HG6:=Lib.hid c6
     have hb6:=HC6.out.own
     have hs6:=c6.keep hs5 (by simpa using HN.out.2.2)
     clear c6 b6 hb4 hs4 hb5 hs5 hw5
     go_wp2_with fail
     refine (cevent hb6 13 x.li 0 0).mono ?_
     rintro e w7 ⟨rfl,c7⟩
     have HC7:=Lib.hid c7
     clear c7
     go_wp2_with fail
     go_ret
     have c8:Chg [] w6 (w7.alloc (.cells (evc ⟨13,Q.id,x.li,0,0⟩) 45)):=HC7.out.alloc _
     have hk:=H4.out.co.oldk.lt
     have hsz:=HC7.out.size
     have hg:=HG6.out.size
     have hg5:=HG5.out.size
     refine CSTo.from HG4.out HK4.out (H4.out.ofCo (CoTo.from ((HG5.out.mono (by simp)).trans (HG6.out.mono (by simp))) ⟨_,rfl,EvV.one (by simp;rfl) (by omega) hsz (fun hm=>by have:=H4.out.old _ hm;omega),HC6.out.keep0 c8,c8.mono (by simp)⟩))
  ·have hfe:(fe !=0)=true:=by simpa using hf
   rw [if_neg hf,if_neg hf]
   clear hf
   go_enter Tryz.func52,Tryz.ntmps52
   try dsimp only [List.append]
   go_wp2_with fail
   go_region_held3 (fun w'=>w'.heap[kb]? =some (.cells (coc Q.id Q.ru Q.rg pb Q.pr.length Q.pc qb wi) 98 (0,0))∧w'.heap[p]? =some (.cells (sec x) 112 (0,0)))
    (first |exact ⟨hb1,hs⟩|exact ⟨(by rw [←HWI.out];exact h4.co.own),c4.keep hs HN.out.2.1⟩)
    (first
     |(go_at_call 91;refine (casked x.kd _).mono ?_;rintro e w' ⟨rfl,rfl⟩)
     |(go_at_call 90;refine (US.out _ ((Chg.refl [] w1).drew)).mono ?_;rintro e w4 ⟨rfl,m4⟩;obtain ⟨F4,h4,c4,k4⟩:=(H1.out.keep0 ((Chg.refl [] w1).drew)).step m4))
   all_goals
    rename World=>w4
    rename _∧_=>hHeld
    have hb4:=hHeld.1
    have hs4:=hHeld.2
    have H4:=Lib.hid h4
    have HG4:=Lib.hid (show Chg (kb::pb::qb::F) w w4 from (HC1.out.mono (by simp)).trans (((Chg.refl _ w1).drew).trans (chg_sys c4)))
    have HK4:=Lib.hid (show ∀k∈F4,k∈F∨w.heap.size≤k from fun k hk=>(k4 k hk).imp id (Nat.le_trans HC1.out.size))
    clear hHeld c4 h4 k4 m4 hs hb1
    go_wp2_with fail
    go_ret
    exact CSTo.from HG4.out HK4.out ⟨_,F4,rfl,EvV.nil ..,H4.out,Chg.refl _ _,fun k hk=>.inl hk⟩
end
end
section
attribute [local go_sem ↓] heap_drewN
def evzV:Value:=.agg (evc evZ)
theorem evzV_size:evzV.cells.size=5:=rfl
theorem evzV_one:∀v∈evzV.cells,v.oneCell'=true:=by intro v hv;simp [evzV,Value.cells,evc,Ev.enc] at hv;rcases hv with rfl|rfl|rfl|rfl|rfl<;>rfl
theorem ev_info:(Tryz.prog.info? 45).map (fun i=>(i.zero,i.size,i.bytes))=some (some evzV,5,40):=by kernel_rfl
theorem eltEv:Elt Tryz.prog 41 45 5 40 evzV Ev.enc where
 slice:=Tryz.underlying41
 info:=ev_info
 zero:=evzV_size
 zone:=evzV_one
 pos:=by omega
 len:=Ev.len
 one:=Ev.one
theorem at_no13 (n a:Int) (w:World) (h0:1≤n) (h1:n≤64) (g0:0≤a) (g3:a<18446744073709551616) (h:atB n a=false):Calls Tryz.prog 83 #[.int .i64 n,.int .u64 a] w fun e w'=>e=.returned (.tuple #[.int .i64 0,.int .i64 0,.int .i64 12])∧w=w':=by
 unfold atB at h
 by_cases g1:a % 8=0
 ·by_cases g2:a / 64<n
  ·simp [g1,g2] at h
  ·have t1:(a % 8 !=0)=false:=by simp [g1]
   have t2:decide (n≤a / 64)=true:=by simp;omega
   clear g1 g2 h
   go_enter Tryz.func83,Tryz.ntmps83
   go_wp2_with (go_at_call 67;refine (wdwithin_yes _ _ _ _ h0 h1).mono ?_;rintro e w' ⟨rfl,rfl⟩)
   go_ret3
   exact ⟨rfl,rfl⟩
 ·exact at_odd n a w h0 h1 g0 g1
theorem at_yes13 (n a:Int) (w:World) (h0:1≤n) (h1:n≤64) (g0:0≤a) (h:atB n a=true):Calls Tryz.prog 83 #[.int .i64 n,.int .u64 a] w fun e w'=>e=.returned (.tuple #[.int .i64 (lineOf a),.int .i64 (wordOf a),.int .i64 0])∧w=w':=by
 unfold atB at h
 simp only [Bool.and_eq_true,beq_iff_eq,decide_eq_true_eq] at h
 exact at_ok n a w h0 h1 g0 h.1 h.2
theorem ev_append {w:World} {kb be1 be2:Nat} {e1 e2:Ev} (h1:w.heap[be1]? =some (.cells (evc e1) 45 (0,0))) (h2:w.heap[be2]? =some (.cells (evc e2) 45 (0,0))) (hk:be1≠kb) (hk2:be2≠kb) (ok:Old w kb):
 ∃be A cap w',appR Tryz.prog 41 41 #[.slice (some ⟨be1,0,none⟩) 1 1,.slice (some ⟨be2,0,none⟩) 1 1] w=.ok (.slice A 2 cap) w'∧Vec 5 45 Ev.enc w' kb be A cap [e1,e2]∧(be=be1∨w.heap.size≤be)∧Chg [be1] w w':=by
 have v1:Vec 5 45 Ev.enc w kb be1 (some ⟨be1,0,none⟩) 1 [e1]:=.inr ⟨hk,rfl,by simp,[],by rw [sq_one_ev];exact h1,by simp⟩
 have v2:Vec 5 45 Ev.enc w kb be2 (some ⟨be2,0,none⟩) 1 [e2]:=.inr ⟨hk2,rfl,by simp,[],by rw [sq_one_ev];exact h2,by simp⟩
 obtain ⟨be',cap',A',w',ha,hv,hb,hc,_⟩:=Vec.app (ty:=41) eltEv v1 ok (B:=some ⟨be2,0,none⟩) (m:=1) (c:=1) (ys:=[e2]) (v2.sl Ev.len) rfl (by show (1+1)*40≤_;omega) (by show 1+1≤_;decide)
 exact ⟨be',A',cap',w',ha,hv,hb,hc⟩
theorem cgfield_li (c:Cg) (w:World):(Instr.field 28 (.agg c.cells) 1).run Tryz.prog w=.ok (.int .i64 c.li) w:=by kernel_rfl
attribute [local go_sem ↓] cgfield_li
theorem putC_eq (S:Mst) (Q:Co) (kd:Int) (e:Se):putC S Q kd e=⟨S,if sbV Q.rm Q.es e=0 then nextC {Q with es:=sbE Q.rm Q.es e} else Q,if sbV Q.rm Q.es e=0 then [evC Q kd e.li e.wo e.va] else []⟩:=by unfold putC;split<;>rfl
theorem CS.keep1 {W w w':World} {c:Cg} {sy:Nat} {F:List Nat} {S:Mst} {kb pb qb b:Nat} {Q:Co} (h:CS W w c sy F S kb pb qb Q) (hc:Chg [b] w w') (h1:b∉F) (h2:b≠kb∧b≠pb∧b≠qb) (h3:W.heap.size≤b):CS W w' c sy F S kb pb qb Q:=
 ⟨Mem.keepL h.ms hc (fun k hk=>by rw [List.mem_singleton] at hk;subst hk;exact h1) (fun k hk=>by rw [List.mem_singleton] at hk;subst hk;exact h3),h.co.keep hc (by simpa using h2.1.symm) (by simpa using h2.2.1.symm) (by simpa using h2.2.2.symm),h.nk,h.np,h.nq,h.lk,h.lp,h.lq⟩
section
variable {W w:World} {c:Cg} {sy n:Nat} {F:List Nat} {S:Mst} {cur:Nat→List Int} {kb pb qb:Nat} {Q:Co} (h:CS W w c sy F S kb pb qb Q) (hI:Inv c n S cur) (hN:NN cur) (hn:n+1≤1000000000) (hR:Roomy c S) (hR2:∀li wo,Roomy c (loadM c S Q.id li wo).1) (hT:Tab W)
include h hI hN hn hR hR2 hT
theorem echange (i:Ins) (ha:0≤i.a∧i.a<8) (hc:0≤i.c∧i.c<8) (li wo:Int) (hp:Q.pc<2147483648):Calls Tryz.prog 87 #[.pointer (some ⟨kb,0,none⟩),.pointer (some ⟨sy,0,none⟩),.agg (insc i),.int .i64 li,.int .i64 wo] w (CSTo W w c sy F kb pb qb (changeC c S Q i li wo).S (changeC c S Q i li wo).Q (changeC c S Q i li wo).ev):=by
 obtain ⟨na,hna⟩:∃n:Nat,i.a=(n:Int):=⟨i.a.toNat,by omega⟩
 have la:na<8:=by omega
 have la':(na:Int)<8:=by omega
 have h8:=h.co.ok.h8
 have hx:(w.alloc (.cells (insc i) 33)).heap[w.heap.size]? =some (.cells (insc i) 33 (0,0)):=by simp
 have HCH:Chg [] w (w.alloc (.cells (insc i) 33)):=(Chg.refl [] w).alloc _
 have HNE:=Lib.hid (show w.heap.size≠kb∧w.heap.size∉F∧w.heap.size≠qb from ⟨by have:=h.co.oldk.lt;omega,fun hm=>by have:=h.old _ hm;omega,by have:=h.co.oldq.lt;omega⟩)
 have H1:=Lib.hid (h.keep0 HCH)
 have hb1:=H1.out.co.own
 have HP:=Lib.hid hp
 have HS1:=Lib.hid (dsettled H1.out.co)
 have UR:=Lib.hid (ureach H1.out.ms hI (by omega) hR hT Q.id li)
 have UL:=Lib.hid (fun (w':World) (F':List Nat) (h':CS W w' c sy F' S kb pb qb Q)=>uload h'.ms hI (by omega) hR hT Q.id li wo)
 have US:=Lib.hid (fun (w':World) (F':List Nat) (v:Int) (h':CS W w' c sy F' (loadM c S Q.id li wo).1 kb pb qb Q)=>ustore h'.ms (hI.loadM Q.id li wo) hn (hR2 li wo) hT Q.id li wo v)
 have HRH:=Lib.hid (fun hh=>reach_hit hI hN h.co.ok.pos (Q:=Q) (k:=Q.id) (li:=li) hh)
 have HV:=Lib.hid (loadV_pos hI hN Q.id li wo)
 have HC1:=Lib.hid HCH
 unfold changeC
 clear h hI hN hn hR hR2 hT hp HCH
 generalize hw1:w.alloc (.cells (insc i) 33)=w1 at *
 generalize hz:w.heap.size=p at *
 have ok1:=old hb1
 have op1:=old hx
 have n1:¬p=kb:=HNE.out.1
 have n2:¬kb=p:=fun e=>HNE.out.1 e.symm
 cases hs:settledB Q
 ·rw [hs] at HS1
  show Calls _ _ _ _ (CSTo W w c sy F kb pb qb S Q [])
  clear hs
  go_enter Tryz.func87,Tryz.ntmps87
  try dsimp only [List.append]
  go_wp2_with (go_at_call 81;refine HS1.out.mono ?_;rintro e w' ⟨rfl,rfl⟩)
  go_ret
  exact ⟨_,F,rfl,EvV.nil ..,H1.out,HC1.out.mono (by simp),fun k hk=>.inl hk⟩
 rw [hs] at HS1
 rw [if_pos rfl]
 clear hs
 cases hr:(reachM c S Q.id li).2.hit
 ·rw [hr] at UR
  show Calls _ _ _ _ (CSTo W w c sy F kb pb qb (reachM c S Q.id li).1 Q [])
  generalize (reachM c S Q.id li).1=S1 at *
  go_enter Tryz.func87,Tryz.ntmps87
  try dsimp only [List.append]
  go_wp2_with (first |(go_at_call 81;refine HS1.out.mono ?_;rintro e w' ⟨rfl,rfl⟩)|(go_at_call 140;refine UR.out.mono ?_;rintro e w2 ⟨rfl,m2⟩;have HM2:=Lib.hid m2;clear m2))
  go_ret
  obtain ⟨F2,h2,c2,k2⟩:=H1.out.step HM2.out
  exact ⟨_,F2,rfl,EvV.nil ..,h2,(HC1.out.mono (by simp)).trans (chg_sys c2),fun k hk=>(k2 k hk).imp id (Nat.le_trans HC1.out.size)⟩
 rw [hr,HRH.out hr] at UR
 rw [if_pos rfl,HRH.out hr]
 clear hr HRH
 have HCG:=Lib.hid (fun (w':World) (F':List Nat) (S':Mst) (h':CS W w' c sy F' S' kb pb qb Q)=>dchanged h'.co i ha hc (loadM c S Q.id li wo).2.v)
 generalize (loadM c S Q.id li wo).2.v=v at *
 generalize (loadM c S Q.id li wo).1=S1 at *
 have HVV:=Lib.hid (show 0≤chgV Q i v from by unfold chgV;split;exact H1.out.co.ok.pos.reg _;exact u64_pos _)
 generalize chgV Q i v=cv at *
 rw [hna]
 clear ha hc
 cases hcb:chgB Q i v
 ·rw [hcb] at HCG
  show Calls _ _ _ _ (CSTo W w c sy F kb pb qb S1 (nextC (setR Q na v)) [evC Q 4 li wo v])
  clear hcb
  go_enter Tryz.func87,Tryz.ntmps87
  try dsimp only [List.append]
  go_wp2_with (first |(go_at_call 81;refine HS1.out.mono ?_;rintro e w' ⟨rfl,rfl⟩)|(go_at_call 140;refine UR.out.mono ?_;rintro e w2 ⟨rfl,m2⟩;obtain ⟨F2,h2,c2,k2⟩:=H1.out.step m2;have H2:=Lib.hid h2;have C2:=Lib.hid c2;have K2:=Lib.hid k2;have hx2:=c2.keep hx HNE.out.2.1;have hb2:=h2.co.own;clear m2 h2 c2 k2 hb1))
  have NP2:=Lib.hid (show p∉F2 from fun hm=>(K2.out p hm).elim HNE.out.2.1 (fun hm2=>by have:=op1.lt;omega))
  clear hx
  refine (UL.out _ _ H2.out).mono ?_
  rintro e w3 ⟨rfl,m3⟩
  obtain ⟨F3,h3,c3,k3⟩:=H2.out.step m3
  have H3:=Lib.hid h3
  have C3:=Lib.hid c3
  have K3:=Lib.hid k3
  have hx3:=C3.out.keep hx2 NP2.out
  have hb3:=h3.co.own
  clear m3 h3 c3 k3 hx2 hb2
  go_wp2_with fail
  refine (cevent hb3 4 li wo v).mono ?_
  rintro e w4 ⟨rfl,c4⟩
  have C5:=Lib.hid (show Chg [] w3 (w4.alloc (.cells (evc ⟨4,Q.id,li,wo,v⟩) 45)) from c4.alloc _)
  have he5:(w4.alloc (.cells (evc ⟨4,Q.id,li,wo,v⟩) 45)).heap[w4.heap.size]? =some (.cells (evc ⟨4,Q.id,li,wo,v⟩) 45 (0,0)):=by simp
  have HB5:=Lib.hid (show w3.heap.size≤w4.heap.size from c4.size)
  have hx4:=c4.keep hx3 (by simp)
  have hb4:=c4.keep hb3 (by simp)
  have ox4:=old hx4
  have ob4:=old hb4
  clear c4
  go_wp2_with fail
  generalize hw5:w4.alloc (.cells (evc ⟨4,Q.id,li,wo,v⟩) 45)=w5 at *
  generalize hbe:w4.heap.size=be at *
  refine (HCG.out w5 F3 S1 (H3.out.keep0 C5.out)).mono ?_
  rintro e w6 ⟨rfl,c6⟩
  have C6:=Lib.hid (C5.out.trans c6)
  have H6:=Lib.hid (H3.out.keep0 C6.out)
  have he6:=c6.keep he5 (by simp)
  have hx6:=C6.out.keep hx3 (by simp)
  have hb6:=H6.out.co.own
  have o6:=old hx6
  have ok6:=old hb6
  clear c6 he5 hx3 hb3 hw5 hbe hx4 hb4 ox4 ob4
  go_wp2_with fail
  go_region
  all_goals
   go_wp2_with fail
   have hN6:=C6.out.size
   have HF6:=H6.out.old
   have hbk:be≠kb:=by have:=H3.out.co.oldk.lt;have:=HB5.out;omega
   have cS:Chg [kb] w6 (w6.setCell ⟨kb,2+na,none⟩ (.int .u64 v)).drew:=((Chg.refl [kb] w6).setCell kb _ _ (.inl (by simp))).drew
   have hC7:Cor (w6.setCell ⟨kb,2+na,none⟩ (.int .u64 v)).drew kb pb qb (setR Q na v):=(H6.out.co.setReg la HV.out).keep0 (Chg.refl [] _).drew
   have hE7:EvV (w6.setCell ⟨kb,2+na,none⟩ (.int .u64 v)).drew w3.heap.size kb F3 (.slice (some ⟨be,0,none⟩) 1 1) [evC Q 4 li wo v]:=EvV.one (cS.keep he6 (by simpa using hbk)) hbk HB5.out (fun hm=>by have:=H3.out.old _ hm;have:=HB5.out;omega)
   refine (dnext hC7 (F:=F3) (fun k hk=>by have:=HF6 k hk;have:=cS.size;omega) hE7 HP.out).mono ?_
   rintro e w8 ⟨rfl,h1,h2,h3⟩
   go_wp2_with fail
   go_ret
   exact CSTo.from (HC1.out.mono (by simp)) (fun k hk=>.inl hk) (CSTo.from (chg_sys C2.out) K2.out (CSTo.from (chg_sys C3.out) K3.out ⟨_,F3,rfl,h1,H6.out.core ((cS.mono (by simp)).trans (h3.mono (by simp))) h2,(C6.out.mono (by simp)).trans (chg_core ((cS.mono (by simp)).trans (h3.mono (by simp)))),fun k hk=>.inl hk⟩))
 ·rw [hcb] at HCG
  rw [if_pos rfl]
  show Calls _ _ _ _ (CSTo W w c sy F kb pb qb (storeM c S1 Q.id li wo cv).1 (nextC (setR Q na v)) [evC Q 4 li wo v,evC Q 3 li wo cv])
  clear hcb
  go_enter Tryz.func87,Tryz.ntmps87
  try dsimp only [List.append]
  go_wp2_with (first |(go_at_call 81;refine HS1.out.mono ?_;rintro e w' ⟨rfl,rfl⟩)|(go_at_call 140;refine UR.out.mono ?_;rintro e w2 ⟨rfl,m2⟩;obtain ⟨F2,h2,c2,k2⟩:=H1.out.step m2;have H2:=Lib.hid h2;have C2:=Lib.hid c2;have K2:=Lib.hid k2;have hx2:=c2.keep hx HNE.out.2.1;have hb2:=h2.co.own;clear m2 h2 c2 k2 hb1))
  have NP2:=Lib.hid (show p∉F2 from fun hm=>(K2.out p hm).elim HNE.out.2.1 (fun hm2=>by have:=op1.lt;omega))
  clear hx
  refine (UL.out _ _ H2.out).mono ?_
  rintro e w3 ⟨rfl,m3⟩
  obtain ⟨F3,h3,c3,k3⟩:=H2.out.step m3
  have H3:=Lib.hid h3
  have C3:=Lib.hid c3
  have K3:=Lib.hid k3
  have hx3:=C3.out.keep hx2 NP2.out
  have hb3:=h3.co.own
  clear m3 h3 c3 k3 hx2 hb2
  go_wp2_with fail
  refine (cevent hb3 4 li wo v).mono ?_
  rintro e w4 ⟨rfl,c4⟩
  have C5:=Lib.hid (show Chg [] w3 (w4.alloc (.cells (evc ⟨4,Q.id,li,wo,v⟩) 45)) from c4.alloc _)
  have he5:(w4.alloc (.cells (evc ⟨4,Q.id,li,wo,v⟩) 45)).heap[w4.heap.size]? =some (.cells (evc ⟨4,Q.id,li,wo,v⟩) 45 (0,0)):=by simp
  have HB5:=Lib.hid (show w3.heap.size≤w4.heap.size from c4.size)
  have hx4:=c4.keep hx3 (by simp)
  have hb4:=c4.keep hb3 (by simp)
  have ox4:=old hx4
  have ob4:=old hb4
  clear c4
  go_wp2_with fail
  generalize hw5:w4.alloc (.cells (evc ⟨4,Q.id,li,wo,v⟩) 45)=w5 at *
  generalize hbe:w4.heap.size=be at *
  refine (HCG.out w5 F3 S1 (H3.out.keep0 C5.out)).mono ?_
  rintro e w6 ⟨rfl,c6⟩
  have C6:=Lib.hid (C5.out.trans c6)
  have H6:=Lib.hid (H3.out.keep0 C6.out)
  have he6:=c6.keep he5 (by simp)
  have hx6:=C6.out.keep hx3 (by simp)
  have hb6:=H6.out.co.own
  have o6:=old hx6
  have ok6:=old hb6
  have HPB:=Lib.hid (show p≠be from by have:=(old hx3).lt;have:=HB5.out;omega)
  clear c6 he5 hx3 hb3 hw5 hbe hx4 hb4 ox4 ob4
  go_wp2_with fail
  have hbk:be≠kb:=by have:=H3.out.co.oldk.lt;have:=HB5.out;omega
  have hbF:be∉F3:=fun hm=>by have:=H3.out.old _ hm;have:=HB5.out;omega
  have HBK:=Lib.hid hbk
  refine (US.out w6 F3 cv H6.out).mono ?_
  rintro e w7 ⟨rfl,m7⟩
  obtain ⟨F7,h7,c7,k7⟩:=H6.out.step m7
  have H7:=Lib.hid h7
  have C7:=Lib.hid c7
  have K7:=Lib.hid k7
  have he7:=c7.keep he6 hbF
  have hx7:=c7.keep hx6 (fun hm=>(K3.out p hm).elim NP2.out (fun h=>by have:=(old hx6).lt;have h8:=C2.out.size;have h9:=HC1.out.size;have:=op1.lt;omega))
  have hb7:=h7.co.own
  have HBF:=Lib.hid (show be∉F7 from fun hm=>(k7 be hm).elim hbF (fun h=>by have:=(old he6).lt;omega))
  clear m7 h7 c7 k7 he6 hx6 hb6 o6 ok6 hbk hbF
  go_wp2_with fail
  refine (cevent hb7 3 li wo cv).mono ?_
  rintro e w8 ⟨rfl,c8⟩
  have C9:=Lib.hid (show Chg [] w7 (w8.alloc (.cells (evc ⟨3,Q.id,li,wo,cv⟩) 45)) from c8.alloc _)
  have he9:=C9.out.keep he7 (by simp)
  have hx9:=C9.out.keep hx7 (by simp)
  have hb9:=C9.out.keep hb7 (by simp)
  have hf9:(w8.alloc (.cells (evc ⟨3,Q.id,li,wo,cv⟩) 45)).heap[w8.heap.size]? =some (.cells (evc ⟨3,Q.id,li,wo,cv⟩) 45 (0,0)):=by simp
  have HZ9:=Lib.hid (show w7.heap.size≤w8.heap.size from c8.size)
  have hx8:=c8.keep hx7 (by simp)
  have hb8:=c8.keep hb7 (by simp)
  have he8:=c8.keep he7 (by simp)
  have ox8:=old hx8
  have ob8:=old hb8
  have oe8:=old he8
  obtain ⟨bq,Aq,cq,w10,happ,hvec,hbq,hcq⟩:=ev_append he9 hf9 HBK.out (by have:=(old hb7).lt;have:=HZ9.out;omega) (old hb9)
  have HVEC:=Lib.hid hvec
  have HBQ:=Lib.hid hbq
  have C10:=Lib.hid hcq
  have hx10:=hcq.keep hx9 (show p∉[be] from by simpa using fun e=>HPB.out e)
  have hb10:=hcq.keep hb9 (show kb∉[be] from by simpa using fun e=>HBK.out e.symm)
  have ox10:=old hx10
  have ob10:=old hb10
  clear hvec hbq hcq c8 he7 hx7 hb7 he9 hx9 hb9 hf9
  go_wp2_with fail
  have hbp:be≠pb∧be≠qb:=by have:=H3.out.co.oldp.lt;have:=H3.out.co.oldq.lt;have:=HB5.out;omega
  have hWb:W.heap.size≤be:=by have:=H3.out.lk;have:=H3.out.co.oldk.lt;have:=HB5.out;omega
  have H10:=Lib.hid ((H7.out.keep0 C9.out).keep1 C10.out HBF.out ⟨HBK.out,hbp⟩ hWb)
  have HE10:=Lib.hid (show EvV w10 w3.heap.size kb F7 (.slice Aq 2 cq) [evC Q 4 li wo v,evC Q 3 li wo cv] from ⟨Aq,cq,bq,rfl,HVEC.out,.inr (by
   have e3:=HB5.out
   have e9:=C9.out.size
   have e7:=C7.out.size
   have e6:=C6.out.size
   rcases HBQ.out with e|e<;>omega),.inr (fun hm=>by
   have e9:=C9.out.size
   have e7:=H7.out.old _ hm
   rcases HBQ.out with e|e
   ·rw [e] at hm;exact HBF.out hm
   ·omega)⟩)
  clear hbp hWb happ hx8 hb8 he8 ox8 ob8 oe8
  go_region
  all_goals
   go_wp2_with fail
   have HF10:=H10.out.old
   have cS:Chg [kb] w10 (w10.setCell ⟨kb,2+na,none⟩ (.int .u64 v)).drew:=((Chg.refl [kb] w10).setCell kb _ _ (.inl (by simp))).drew
   have hC7:Cor (w10.setCell ⟨kb,2+na,none⟩ (.int .u64 v)).drew kb pb qb (setR Q na v):=(H10.out.co.setReg la HV.out).keep0 (Chg.refl [] _).drew
   refine (dnext hC7 (F:=F7) (fun k hk=>by have:=HF10 k hk;have:=cS.size;omega) (HE10.out.keep cS (fun x _ hx _=>by simpa using hx)) HP.out).mono ?_
   rintro e w11 ⟨rfl,h1,h2,h3⟩
   go_wp2_with fail
   go_ret
   have cA:Chg F3 w3 w10:=(((C6.out.mono (l':=F3) (by simp)).trans C7.out).trans (C9.out.mono (by simp))).trans' C10.out (fun x hx=>.inr (by
    rw [List.mem_singleton] at hx
    rw [hx]
    exact HB5.out))
   have cB:Chg [kb,pb,qb] w10 w11:=(cS.mono (by simp)).trans (h3.mono (by simp))
   exact CSTo.from (HC1.out.mono (by simp)) (fun k hk=>.inl hk) (CSTo.from (chg_sys C2.out) K2.out (CSTo.from (chg_sys C3.out) K3.out ⟨_,F7,rfl,h1,H10.out.core cB h2,(chg_sys cA).trans (chg_core cB),fun k hk=>(K7.out k hk).imp id (Nat.le_trans C6.out.size)⟩))
theorem eaccess (i:Ins) (hg:goodI i=true) (hop:i.op=8∨i.op=9∨i.op=10∨i.op=11∨i.op=12∨i.op=13∨i.op=14) (hp:Q.pc<2147483648):Calls Tryz.prog 48 #[.pointer (some ⟨kb,0,none⟩),.pointer (some ⟨sy,0,none⟩),.agg (insc i)] w (CSTo W w c sy F kb pb qb (accessC c S Q i).S (accessC c S Q i).Q (accessC c S Q i).ev):=by
 obtain ⟨_,ha,hb,hc,_,_⟩:=goodI_parts hg
 obtain ⟨na,hna⟩:∃n:Nat,i.a=(n:Int):=⟨i.a.toNat,by omega⟩
 obtain ⟨nb,hnb⟩:∃n:Nat,i.b=(n:Int):=⟨i.b.toNat,by omega⟩
 have ea:regA Q i.a=regN Q.rg na:=by unfold regA;rw [hna,Int.toNat_natCast]
 have eb:regA Q i.b=regN Q.rg nb:=by unfold regA;rw [hnb,Int.toNat_natCast]
 have la:na<8:=by omega
 have lb:nb<8:=by omega
 have la':(na:Int)<8:=by omega
 have lb':(nb:Int)<8:=by omega
 have h8:=h.co.ok.h8
 have hx:(w.alloc (.cells (insc i) 33)).heap[w.heap.size]? =some (.cells (insc i) 33 (0,0)):=by simp
 have HCH:Chg [] w (w.alloc (.cells (insc i) 33)):=(Chg.refl [] w).alloc _
 have H1:=Lib.hid (h.keep0 HCH)
 have hb1:=H1.out.co.own
 have HP:=Lib.hid hp
 have HC1:=Lib.hid HCH
 have HOP:=Lib.hid hop
 have ad0:0≤addrI Q i∧addrI Q i<18446744073709551616:=by unfold addrI;rw [u64_w];omega
 have AD:=Lib.hid ad0
 have HLI:=Lib.hid (show 1≤(c.li:Int)∧(c.li:Int)≤64 from ⟨by have:=hI.ok.li2;omega,by have:=hI.ok.li64;omega⟩)
 have EL:=Lib.hid (fun (w':World) (h':CS W w' c sy F S kb pb qb Q) (li wo:Int)=>eload h' hI hN (by omega) hR hT (na:Int) (by omega) li wo hp)
 have EC:=Lib.hid (fun (w':World) (h':CS W w' c sy F S kb pb qb Q) (li wo:Int)=>echange h' hI hN hn hR hR2 hT i ha hc li wo hp)
 have EP:=Lib.hid (fun (w':World) (h':CS W w' c sy F S kb pb qb Q) (kd:Int) (x:Se) (hx:0≤x.va)=>show Calls _ _ _ _ (CSTo W w' c sy F kb pb qb (putC S Q kd x).S (putC S Q kd x).Q (putC S Q kd x).ev) from by rw [putC_eq];exact (dput h'.co h'.old kd x hx hp).mono fun e w' hd=>h'.ofCo hd)
 have ED:=Lib.hid (fun (w':World) (h':CS W w' c sy F S kb pb qb Q) (kd:Int)=>(dend h'.co h'.old kd).mono fun e w' hd=>h'.ofCo hd)
 have EA:=Lib.hid (show addrI Q i=IntKind.u64.wrap (regN Q.rg nb+IntKind.u64.wrap i.im) from by unfold addrI;rw [eb])
 have RP:=Lib.hid (show 0≤regN Q.rg na from by have:=h.co.ok.pos.reg i.a;rw [ea] at this;exact this)
 have GS:=Lib.hid (fun (w':World)=>gsum_any (regN Q.rg nb) i.im w')
 unfold accessC
 rw [ea]
 generalize hw1:w.alloc (.cells (insc i) 33)=w1 at *
 generalize hz:w.heap.size=p at *
 rw [←EA.out] at GS
 generalize addrI Q i=ad at *
 have R1:∀y:Aft w1.heap.size w1,y.w.heap[p]? =some (.cells (insc i) 33 (0,0)):=fun y=>(y.block (old hx).lt).trans hx
 have R2:∀y:Aft w1.heap.size w1,y.w.heap[kb]? =some (.cells (coc Q.id Q.ru Q.rg pb Q.pr.length Q.pc qb Q.wt) 98 (0,0)):=fun y=>(y.block (old hb1).lt).trans hb1
 have ob1:=old hb1
 have ox1:=old hx
 clear h hI hN hn hR hR2 hT hp HCH hop ad0 ea eb hg
 cases hat:atB c.li ad
 ·show Calls _ _ _ _ (CSTo W w c sy F kb pb qb S (stopC Q) [evC Q 10 0 0 0])
  have HAT:=Lib.hid (fun w'=>at_no13 c.li ad w' HLI.out.1 HLI.out.2 AD.out.1 AD.out.2 hat)
  clear hat
  go_enter Tryz.func48,Tryz.ntmps48
  try dsimp only [List.append]
  go_wp2_with fail
  refine wp_region_aft w1.heap.size (by kernel_rfl) (by kernel_rfl) ?_
  repeat (go_big_quiet_step (first |(go_at_call 82;exact calls_aft_same (GS.out _))))
  refine wpQuiet_nil ?_
  rintro _ ⟨y,rfl⟩
  have CY:=Lib.hid (Below.chg y.below (Nat.le_refl _))
  have HY:=Lib.hid (H1.out.keep0 CY.out)
  have r1:=R1 y
  have r2:=R2 y
  go_wp2_with (first |(go_at_call 84;refine (mconfig_ok HY.out.ms).mono ?_;rintro e w3 ⟨rfl,c3⟩;have H3:=Lib.hid (HY.out.keep0 c3);have C3:=Lib.hid c3;clear c3)|(go_at_call 83;refine (HAT.out _).mono ?_;rintro e w' ⟨rfl,rfl⟩)|(go_at_call 42;refine (ED.out _ H3.out 10).mono ?_;rintro e w4 ⟨v,F',rfl,hd⟩))
  go_ret
  exact CSTo.from (((HC1.out.trans CY.out).trans C3.out).mono (by simp)) (fun k hk=>.inl hk) ⟨v,F',rfl,hd⟩
 ·have HAT:=Lib.hid (fun w'=>at_yes13 c.li ad w' HLI.out.1 HLI.out.2 AD.out.1 hat)
  clear hat
  generalize lineOf ad=li at *
  generalize wordOf ad=wo at *
  rcases HOP.out with hk|hk|hk|hk|hk
  ·rw [if_pos rfl,if_pos hk,hna]
   have k8:(i.op==8)=true:=by simp [hk]
   clear hk HOP
   go_enter Tryz.func48,Tryz.ntmps48
   try dsimp only [List.append]
   go_wp2_with fail
   refine wp_region_aft w1.heap.size (by kernel_rfl) (by kernel_rfl) ?_
   repeat (go_big_quiet_step (first |(go_at_call 82;exact calls_aft_same (GS.out _))))
   refine wpQuiet_nil ?_
   rintro _ ⟨y,rfl⟩
   have CY:=Lib.hid (Below.chg y.below (Nat.le_refl _))
   have HY:=Lib.hid (H1.out.keep0 CY.out)
   have r1:=R1 y
   have r2:=R2 y
   go_wp2_with (first |(go_at_call 84;refine (mconfig_ok HY.out.ms).mono ?_;rintro e w3 ⟨rfl,c3⟩;have r13:=c3.keep r1 (by simp);have r23:=c3.keep r2 (by simp);have H3:=Lib.hid (HY.out.keep0 c3);have C3:=Lib.hid c3;clear c3 r1 r2)|(go_at_call 83;refine (HAT.out _).mono ?_;rintro e w' ⟨rfl,rfl⟩))
   refine (EL.out _ H3.out li wo).mono ?_
   rintro e w4 ⟨v,F',rfl,hd⟩
   go_wp2_with fail
   go_ret
   exact CSTo.from (((HC1.out.trans CY.out).trans C3.out).mono (by simp)) (fun k hk=>.inl hk) ⟨v,F',rfl,hd⟩
  ·rw [if_pos rfl,if_neg (by omega),if_pos hk]
   have k8:(i.op==8)=false:=by simp [hk]
   have k9:(i.op==9)=true:=by simp [hk]
   have HK:=Lib.hid hk
   clear hk HOP
   go_enter Tryz.func48,Tryz.ntmps48
   try dsimp only [List.append]
   go_wp2_with fail
   refine wp_region_aft w1.heap.size (by kernel_rfl) (by kernel_rfl) ?_
   repeat (go_big_quiet_step (first |(go_at_call 82;exact calls_aft_same (GS.out _))))
   refine wpQuiet_nil ?_
   rintro _ ⟨y,rfl⟩
   have CY:=Lib.hid (Below.chg y.below (Nat.le_refl _))
   have HY:=Lib.hid (H1.out.keep0 CY.out)
   have r1:=R1 y
   have r2:=R2 y
   go_wp2_with (first |(go_at_call 84;refine (mconfig_ok HY.out.ms).mono ?_;rintro e w3 ⟨rfl,c3⟩;have r13:=c3.keep r1 (by simp);have r23:=c3.keep r2 (by simp);have H3:=Lib.hid (HY.out.keep0 c3);have C3:=Lib.hid c3;clear c3 r1 r2)|(go_at_call 83;refine (HAT.out _).mono ?_;rintro e w' ⟨rfl,rfl⟩))
   go_still_tail 13,(by kernel_rfl)
   change wpList _ _ _ _ _ w3.drew
   have C4:=Lib.hid ((Chg.refl [] w3).drew)
   have H4:=Lib.hid (H3.out.keep0 C4.out)
   generalize w3.drew=w4 at *
   go_wp2_with fail
   rw [HK.out]
   refine (EP.out _ H4.out 12 ⟨9,li,wo,regN Q.rg na,false⟩ RP.out).mono ?_
   rintro e w5 ⟨v,F',rfl,hd⟩
   go_wp2_with fail
   go_ret
   exact CSTo.from (((((HC1.out.trans CY.out).trans C3.out).trans C4.out).mono (by simp))) (fun k hk=>.inl hk) ⟨v,F',rfl,hd⟩
  ·rw [if_pos rfl,if_neg (by omega),if_neg (by omega),if_pos (by omega)]
   have k8:(i.op==8)=false:=by simp [hk]
   have k9:(i.op==9)=false:=by simp [hk]
   have k10:(i.op==10)=true:=by simp [hk]
   clear hk HOP
   go_enter Tryz.func48,Tryz.ntmps48
   try dsimp only [List.append]
   go_wp2_with fail
   refine wp_region_aft w1.heap.size (by kernel_rfl) (by kernel_rfl) ?_
   repeat (go_big_quiet_step (first |(go_at_call 82;exact calls_aft_same (GS.out _))))
   refine wpQuiet_nil ?_
   rintro _ ⟨y,rfl⟩
   have CY:=Lib.hid (Below.chg y.below (Nat.le_refl _))
   have HY:=Lib.hid (H1.out.keep0 CY.out)
   have r1:=R1 y
   have r2:=R2 y
   go_wp2_with (first |(go_at_call 84;refine (mconfig_ok HY.out.ms).mono ?_;rintro e w3 ⟨rfl,c3⟩;have r13:=c3.keep r1 (by simp);have r23:=c3.keep r2 (by simp);have H3:=Lib.hid (HY.out.keep0 c3);have C3:=Lib.hid c3;clear c3 r1 r2)|(go_at_call 83;refine (HAT.out _).mono ?_;rintro e w' ⟨rfl,rfl⟩))
   refine (EC.out _ H3.out li wo).mono ?_
   rintro e w4 ⟨v,F',rfl,hd⟩
   go_wp2_with fail
   go_ret
   exact CSTo.from (((HC1.out.trans CY.out).trans C3.out).mono (by simp)) (fun k hk=>.inl hk) ⟨v,F',rfl,hd⟩
  ·rw [if_pos rfl,if_neg (by omega),if_neg (by omega),if_pos (by omega)]
   have k8:(i.op==8)=false:=by simp [hk]
   have k9:(i.op==9)=false:=by simp [hk]
   have k10:(i.op==10)=false:=by simp [hk]
   have k11:(i.op==11)=true:=by simp [hk]
   clear hk HOP
   go_enter Tryz.func48,Tryz.ntmps48
   try dsimp only [List.append]
   go_wp2_with fail
   refine wp_region_aft w1.heap.size (by kernel_rfl) (by kernel_rfl) ?_
   repeat (go_big_quiet_step (first |(go_at_call 82;exact calls_aft_same (GS.out _))))
   refine wpQuiet_nil ?_
   rintro _ ⟨y,rfl⟩
   have CY:=Lib.hid (Below.chg y.below (Nat.le_refl _))
   have HY:=Lib.hid (H1.out.keep0 CY.out)
   have r1:=R1 y
   have r2:=R2 y
   go_wp2_with (first |(go_at_call 84;refine (mconfig_ok HY.out.ms).mono ?_;rintro e w3 ⟨rfl,c3⟩;have r13:=c3.keep r1 (by simp);have r23:=c3.keep r2 (by simp);have H3:=Lib.hid (HY.out.keep0 c3);have C3:=Lib.hid c3;clear c3 r1 r2)|(go_at_call 83;refine (HAT.out _).mono ?_;rintro e w' ⟨rfl,rfl⟩))
   refine (EC.out _ H3.out li wo).mono ?_
   rintro e w4 ⟨v,F',rfl,hd⟩
   go_wp2_with fail
   go_ret
   exact CSTo.from (((HC1.out.trans CY.out).trans C3.out).mono (by simp)) (fun k hk=>.inl hk) ⟨v,F',rfl,hd⟩
  ·rw [if_pos rfl,if_neg (by omega),if_neg (by omega),if_neg (by omega)]
   have k8:(i.op==8)=false:=by rw [beq_eq_false_iff_ne];omega
   have k9:(i.op==9)=false:=by rw [beq_eq_false_iff_ne];omega
   have k10:(i.op==10)=false:=by rw [beq_eq_false_iff_ne];omega
   have k11:(i.op==11)=false:=by rw [beq_eq_false_iff_ne];omega
   clear hk HOP
   go_enter Tryz.func48,Tryz.ntmps48
   try dsimp only [List.append]
   go_wp2_with fail
   refine wp_region_aft w1.heap.size (by kernel_rfl) (by kernel_rfl) ?_
   repeat (go_big_quiet_step (first |(go_at_call 82;exact calls_aft_same (GS.out _))))
   refine wpQuiet_nil ?_
   rintro _ ⟨y,rfl⟩
   have CY:=Lib.hid (Below.chg y.below (Nat.le_refl _))
   have HY:=Lib.hid (H1.out.keep0 CY.out)
   have r1:=R1 y
   have r2:=R2 y
   go_wp2_with (first |(go_at_call 84;refine (mconfig_ok HY.out.ms).mono ?_;rintro e w3 ⟨rfl,c3⟩;have r13:=c3.keep r1 (by simp);have r23:=c3.keep r2 (by simp);have H3:=Lib.hid (HY.out.keep0 c3);have C3:=Lib.hid c3;clear c3 r1 r2)|(go_at_call 83;refine (HAT.out _).mono ?_;rintro e w' ⟨rfl,rfl⟩))
   refine (EP.out _ H3.out 14 ⟨i.op,li,0,0,false⟩ (Int.le_refl _)).mono ?_
   rintro e w5 ⟨v,F',rfl,hd⟩
   go_wp2_with fail
   go_ret
   exact CSTo.from ((((HC1.out.trans CY.out).trans C3.out).mono (by simp))) (fun k hk=>.inl hk) ⟨v,F',rfl,hd⟩
end
end
end Go.Proofs.YtcjoinhngdfdmaaGreatDoor
