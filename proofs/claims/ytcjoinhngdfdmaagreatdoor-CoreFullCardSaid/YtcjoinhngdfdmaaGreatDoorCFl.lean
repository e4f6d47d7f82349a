/- What a statement of layer 13 needs further: by parts. No condition. -/
import Derived.Test.YtcjoinhngdfdmaaGreatDoorCFk
section
namespace Go.Proofs.YtcjoinhngdfdmaaGreatDoor
open Go.RowKit
set_option linter.unusedVariables false
set_option maxHeartbeats 1000000
theorem Roomy.dnB {c:Cg} {n:Nat} {S:Mst} {cur:Nat→List Int} (hQ:Roomy c S) (h:Inv c n S cur):∀x∈S.ps,x.dn.length≤980:=by
 intro x hx
 obtain ⟨j,hj⟩:=List.getElem?_of_mem hx
 have hjl:=(List.getElem?_eq_some_iff.1 hj).1
 have:=(hQ j (by rw [←h.co];exact hjl)).2.2
 rw [atP_of hj] at this
 exact this
section
variable {W w:World} {c:Cg} {sy n:Nat} {F:List Nat} {S:Mst} {cur:Nat→List Int} (hm:MS W w c sy F S) (hI:Inv c n S cur)
include hm
include hI
theorem uflush (hn:n≤1000000000) (hQ:Roomy c S) (hT:Tab W) (k li kd:Int):
 Calls Tryz.prog 90 #[.pointer (some ⟨sy,0,none⟩),.int .i64 k,.int .i64 li,.int .i64 kd] w fun e w'=>e=.returned (.int .i64 (flushM c S k li kd).2.e)∧MTS W w c sy F (flushM c S k li kd).1 w':=by
 unfold flushM
 cases hp:portAt c S k with
 |none=>exact (mflush_no hm k li kd (hI.portNone hp)).mono fun e w' h=>⟨h.1,MS.sameU hm (h.2▸Chg.refl [] w)⟩
 |some x=>
  obtain ⟨j,rfl,hj,hx,hat,hP,_⟩:=hI.port hp
  have hQj:=hQ j hj
  rw [hat] at hQj
  have hus:x.s.2≤1000000000:=by have:=hP.us;omega
  have hq:x.up.length<1000:=by have:=hQj.1;omega
  have h64:=hI.ok.li64
  dsimp only
  by_cases hl:inB li c.li=true
  ·by_cases hk:kd=4∨kd=5
   ·rw [if_pos ⟨hl,hk⟩]
    have hmg:=(hI.flush hj hx hl hk).2
    rcases hk with rfl|rfl
    ·exact mflush_4 hm j li x hx hT hl hq hmg
    ·exact mflush_5 hm j li x hx hT hl hq hmg
   ·rw [if_neg (fun h=>hk h.2)]
    exact (mflush_kind hm j li kd hj hl (fun h=>hk (.inl h)) (fun h=>hk (.inr h))).mono fun e w' h=>⟨h.1,MS.sameU hm (h.2▸Chg.refl [] w)⟩
  ·rw [if_neg (fun h=>hl h.1)]
   exact (mflush_off hm j li kd hj (by simpa using hl)).mono fun e w' h=>⟨h.1,MS.sameU hm (h.2▸Chg.refl [] w)⟩
theorem uup (hn:n≤1000000000) (hQ:Roomy c S) (hT:Tab W) (k:Int):
 Calls Tryz.prog 19 #[.pointer (some ⟨sy,0,none⟩),.int .i64 k] w fun e w'=>e=.returned (.int .i64 (upM c S k).2.e)∧MTS W w c sy F (upM c S k).1 w':=by
 unfold upM
 cases hp:portAt c S k with
 |none=>exact (mup_no hm k (hI.portNone hp)).mono fun e w' h=>⟨h.1,MS.sameU hm (h.2▸Chg.refl [] w)⟩
 |some x=>
  obtain ⟨j,rfl,hj,hx,hat,hP,_⟩:=hI.port hp
  have hQj:=hQ j hj
  rw [hat] at hQj
  have hus:x.s.2≤1000000000:=by have:=hP.us;omega
  have hq:x.up.length<1000:=by have:=hQj.1;omega
  have h64:=hI.ok.li64
  dsimp only
  cases hu:x.up with
  |nil=>exact (mup_none hm j x hx hu).mono fun e w' h=>⟨h.1,MS.sameU hm h.2⟩
  |cons m rest=>
   obtain ⟨i,e,hi,hic,he,hc⟩:=hI.up hj hx hu
   have ei:i=m.li.toNat:=by omega
   subst ei
   dsimp only
   rw [he]
   dsimp only
   have hX:ln (over S.xs S.es) m.li.toNat=lnG S.X m.li.toNat:=(lnG_eq (hI.ln8 hic)).symm
   rcases hc with ⟨_,h2⟩|⟨_,o,a,e',h2,h3,h4,_⟩
   ·rw [h2,if_neg (by decide)]
    refine (mup_go hm j m.li.toNat x hx m rest e enZ (lnG S.X m.li.toNat) (lnG_len _ _) [] 15 hT hu (by omega) hi he hX h2 (fun d hd=>by cases hd) 980 (hQ.dnB hI) (by show 980+0≤1000;omega)).mono fun r w' hr=>?_
    rcases hr with ⟨_,q2,q3⟩|⟨q1,_⟩
    ·exact ⟨q2,q3⟩
    ·exact absurd q1 (by decide)
   ·rw [h2,if_pos rfl]
    refine (mup_go hm j m.li.toNat x hx m rest e e' (lnG S.X m.li.toNat) (lnG_len _ _) (tellL o a) 0 hT hu (by omega) hi he hX h2 (tellL_to h4 h3.1) 980 (hQ.dnB hI) (by have:=tellL_len o a;omega)).mono fun r w' hr=>?_
    rcases hr with ⟨q1,_⟩|⟨_,q2,q3⟩
    ·exact absurd rfl q1
    ·exact ⟨q2,q3⟩
theorem uhear (hn:n≤1000000000) (hQ:Roomy c S) (hT:Tabs W) (k:Int):
 Calls Tryz.prog 20 #[.pointer (some ⟨sy,0,none⟩),.int .i64 k] w fun e w'=>e=.returned (.tuple #[.agg (msc (hearM c S k).2.m),.int .i64 (hearM c S k).2.e])∧MTS W w c sy F (hearM c S k).1 w':=by
 unfold hearM
 cases hp:portAt c S k with
 |none=>exact (mhear_no hm k (hI.portNone hp)).mono fun e w' h=>⟨h.1,MS.sameU hm h.2⟩
 |some x=>
  obtain ⟨j,rfl,hj,hx,hat,hP,_⟩:=hI.port hp
  have hQj:=hQ j hj
  rw [hat] at hQj
  have hus:x.s.2≤1000000000:=by have:=hP.us;omega
  have hq:x.up.length<1000:=by have:=hQj.1;omega
  have h64:=hI.ok.li64
  dsimp only
  cases hu:x.dn with
  |nil=>
   refine (mhear_none hm j x hx hu).mono fun e w' h=>⟨h.1,?_⟩
   have e1:S.ps.set j {x with dn:=[]}=S.ps:=by
    have:({x with dn:=[]}:Pt)=x:=by rw [←hu]
    rw [this]
    obtain ⟨h1,h2⟩:=List.getElem?_eq_some_iff.1 hx
    rw [←h2];exact List.set_getElem_self h1
   have h2:=h.2
   rw [e1] at h2
   exact h2
  |cons m rest=>
   obtain ⟨_,h2,h3,h4,_⟩:=hI.hear hj hx hu
   dsimp only
   rw [if_pos h2]
   refine (mhear_go hm j x hx m rest (hearF c.se c.wa x.s m).1 (hearF c.se c.wa x.s m).2.1 0 hT hu (by have:=hQj.2.2;omega) hus (by rw [←h2]) h3 (by have:=hQj.2.1;omega) h4).mono fun r w' hr=>?_
   rcases hr with ⟨q1,_⟩|⟨_,q2,q3⟩
   ·exact absurd rfl q1
   ·exact ⟨q2,q3⟩
end
end Go.Proofs.YtcjoinhngdfdmaaGreatDoor
end
section
namespace Go.Proofs.YtcjoinhngdfdmaaGreatDoor
open Go.RowKit
set_option linter.unusedVariables false
set_option maxHeartbeats 1000000
set_option maxRecDepth 100000
attribute [local go_sem ↓] append_appS copy_copS clear_clrS make_mkS cell_row frozen_row heap_drew heap_drewN heap_alloc heap_past heap_setCell heap_putRow loadSe storeSe loadIns storeIns loadEv storeEv loadRg storeRg sec_kd sec_li sec_wo sec_va sec_sn insc_op insc_a insc_b insc_c insc_im evc_kd evc_co evc_li evc_wo evc_va coc_id coc_ru coc_reg coc_pr coc_pc coc_qb coc_wt
attribute [local go_sem] rowCell_some rowFrozen_some rowHas_some rowIn_some rowPart_full rowPart_lit rowPut_full rowPut_lit rowSet_some size_putRow run_loadS run_storeS run_appS run_copS run_clrS run_mkS loadW_at storeW_at fit_all fit_le one_int one_bool one_pointer one_slice allOne_list putRow_new ne_size1 ne_size2 ne_size3 ne_size4 wideSe wideIns wideEv wideRg sec_size sec_one sec_lit sec_z sec_ne sec_set0 sec_set1 sec_set2 sec_set3 sec_set4 seZ_kd seZ_li seZ_wo seZ_va seZ_sn fold_sec insc_size insc_one insc_ne insc_lit insc_z fold_insc evc_size evc_one evc_ne evc_lit evc_z evc_set0 evc_set1 evc_set2 evc_set3 evc_set4 evZ_kd evZ_co evZ_li evZ_wo evZ_va fold_evc coc_setRu coc_size coc_one coc_setPc coc_setWt coc_setReg coc_regs coc_regsIn vs_size vs_one
attribute [local simp ↓] heap_drew heap_drewN heap_alloc heap_past heap_setCell heap_putRow
attribute [local simp] rowCell_some rowFrozen_some rowHas_some rowIn_some rowPart_full rowPart_lit rowPut_full rowPut_lit rowSet_some size_putRow fit_all putRow_new ne_size1 ne_size2 ne_size3 ne_size4 sec_size insc_size evc_size coc_size coc_setRu coc_setPc coc_setWt coc_setReg vs_size fit_le
section
variable {w:World} {kb:Nat} {id:Int} {ru:Bool} {rg:List Int} {pb np:Nat} {pc:Int} {qb:Nat} {wt:Int} (h8:rg.length=8) (hb:w.heap[kb]? =some (.cells (coc id ru rg pb np pc qb wt) 98 (0,0)))
include hb
include h8
theorem cplace:Calls Tryz.prog 27 #[.pointer (some ⟨kb,0,none⟩)] w fun e w'=>e=.returned (.int .i64 pc)∧w=w':=by
 go_enter Tryz.func27,Tryz.ntmps27
 go_wp2_with fail
 go_ret
 exact ⟨rfl,rfl⟩
end
section
variable {w:World} {kb:Nat} {id:Int} {ru:Bool} {rg:List Int} {pb np:Nat} {pc:Int} {qb:Nat} {wt:Int} (hb:w.heap[kb]? =some (.cells (coc id ru rg pb np pc qb wt) 98 (0,0)))
include hb
end
end Go.Proofs.YtcjoinhngdfdmaaGreatDoor
end
section
namespace Go.Proofs.YtcjoinhngdfdmaaGreatDoor
open Go.RowKit
set_option linter.unusedVariables false
set_option maxHeartbeats 1000000
section
variable {c:Cg} {n:Nat} {S:Mst} {cur:Nat→List Int} (h:Inv c n S cur) (hN:NN cur)
include h hN
theorem NN.store {k li wd v:Int} (hv:0≤v):∃cur',Inv c (n+1) (storeM c S k li wd v).1 cur'∧NN cur':=by
 refine ⟨_,(h.storeM k li wd v).1,?_⟩
 split
 ·intro i x hx
  dsimp only at hx
  split at hx
  ·rcases List.mem_or_eq_of_mem_set hx with h1|rfl
   ·exact hN i x h1
   ·exact hv
  ·exact hN i x hx
 ·exact hN
variable {Q:Co} (hQ:PosC Q)
include hQ
end
structure Left13 (c:Cg) (n:Nat) (D:Did13) (Q:Co) (cur':Nat→List Int):Prop where
 inv:Inv c n D.S cur'
 nn:NN cur'
 pos:PosC D.Q
 id:D.Q.id=Q.id
 rm:D.Q.rm=Q.rm
 wt:D.Q.wt≤max Q.wt 16
 es:D.Q.es.length≤Q.es.length
theorem left_drain {c:Cg} {n:Nat} {S:Mst} {cur:Nat→List Int} (h:Inv c n S cur) (hN:NN cur) {Q:Co} (hQ:PosC Q):∃cur',Left13 c (n+1) (drainC c S Q) Q cur':=by
 unfold drainC
 split
 ·exact ⟨cur,h.next,hN,hQ,rfl,rfl,Nat.le_max_left _ _,Nat.le_refl _⟩
 ·rename_i e rest he
  have hp:PosC {Q with es:=rest}:=⟨hQ.rg,fun x hx=>hQ.es x (by rw [he];exact List.mem_cons_of_mem _ hx)⟩
  have hv:0≤e.va:=hQ.es e (by rw [he];exact List.mem_cons_self)
  have hl:rest.length≤Q.es.length:=by rw [he,List.length_cons];omega
  split
  ·obtain ⟨cur',h1,h2⟩:=NN.store h hN (k:=Q.id) (li:=e.li) (wd:=e.wo) hv
   split
   ·exact ⟨cur',h1,h2,hp,rfl,rfl,Nat.le_max_left _ _,hl⟩
   ·exact ⟨cur',h1,h2,hQ,rfl,rfl,Nat.le_max_left _ _,Nat.le_refl _⟩
  split
  ·split
   ·exact ⟨cur,h.next,hN,hp,rfl,rfl,Nat.le_max_left _ _,hl⟩
   ·exact ⟨cur,h.next,hN,hQ,rfl,rfl,Nat.le_max_left _ _,Nat.le_refl _⟩
  split
  ·exact ⟨cur,h.next,hN,hQ,rfl,rfl,Nat.le_max_left _ _,Nat.le_refl _⟩
  have hf:=h.flushM Q.id e.li (askedK e.kd)
  split
  ·refine ⟨cur,hf,hN,⟨hQ.rg,?_⟩,rfl,rfl,?_,?_⟩
   ·show ∀x∈(if e.kd=14 then sent e::rest else rest),0≤x.va
    intro x hx
    split at hx
    ·rcases List.mem_cons.1 hx with rfl|hx
     ·exact hv
     ·exact hp.es x hx
    ·exact hp.es x hx
   ·show Q.wt+1≤_
    omega
   ·show (if e.kd=14 then sent e::rest else rest).length≤_
    split
    ·rw [he];exact Nat.le_refl _
    ·exact hl
  ·exact ⟨cur,hf,hN,hQ,rfl,rfl,Nat.le_max_left _ _,Nat.le_refl _⟩
end Go.Proofs.YtcjoinhngdfdmaaGreatDoor
end
section
namespace Go.Proofs.YtcjoinhngdfdmaaGreatDoor
open Go.RowKit
set_option linter.unusedVariables false
set_option maxHeartbeats 1000000
set_option maxRecDepth 100000
attribute [local go_sem ↓] append_appS copy_copS clear_clrS make_mkS cell_row frozen_row heap_drew heap_drewN heap_alloc heap_past heap_setCell heap_putRow loadSe storeSe loadIns storeIns loadEv storeEv loadRg storeRg sec_kd sec_li sec_wo sec_va sec_sn insc_op insc_a insc_b insc_c insc_im evc_kd evc_co evc_li evc_wo evc_va coc_id coc_ru coc_reg coc_pr coc_pc coc_qb coc_wt
attribute [local go_sem] rowCell_some rowFrozen_some rowHas_some rowIn_some rowPart_full rowPart_lit rowPut_full rowPut_lit rowSet_some size_putRow run_loadS run_storeS run_appS run_copS run_clrS run_mkS loadW_at storeW_at fit_all fit_le one_int one_bool one_pointer one_slice allOne_list putRow_new ne_size1 ne_size2 ne_size3 ne_size4 wideSe wideIns wideEv wideRg sec_size sec_one sec_lit sec_z sec_ne sec_set0 sec_set1 sec_set2 sec_set3 sec_set4 seZ_kd seZ_li seZ_wo seZ_va seZ_sn fold_sec insc_size insc_one insc_ne insc_lit insc_z fold_insc evc_size evc_one evc_ne evc_lit evc_z evc_set0 evc_set1 evc_set2 evc_set3 evc_set4 evZ_kd evZ_co evZ_li evZ_wo evZ_va fold_evc coc_setRu coc_size coc_one coc_setPc coc_setWt coc_setReg coc_regs coc_regsIn vs_size vs_one
attribute [local simp ↓] heap_drew heap_drewN heap_alloc heap_past heap_setCell heap_putRow
attribute [local simp] rowCell_some rowFrozen_some rowHas_some rowIn_some rowPart_full rowPart_lit rowPut_full rowPut_lit rowSet_some size_putRow fit_all putRow_new ne_size1 ne_size2 ne_size3 ne_size4 sec_size insc_size evc_size coc_size coc_setRu coc_setPc coc_setWt coc_setReg vs_size fit_le
attribute [local go_sem ↓] heap_drewN loadMsg storeMsg msc_kd msc_li
attribute [local go_sem] wideMsg msc_size msc_one
section
variable {w:World} {kb pb qb:Nat} {F:List Nat} {Q:Co} (hC:Cor w kb pb qb Q)
include hC
theorem dendFlush:Calls Tryz.prog 51 #[.pointer (some ⟨kb,0,none⟩)] w fun e w'=>e=.returned (.tuple #[])∧Cor w' kb pb qb (if Q.wt=0 then {Q with es:=Q.es.tail} else Q)∧Chg [qb] w w':=by
 have h8:=hC.ok.h8
 have hb:=hC.own
 have HC:=Lib.hid hC
 have hw:((Q.wt:Int)==0)=decide (Q.wt=0):=by rw [Bool.eq_iff_iff];simp
 clear hC
 by_cases h0:Q.wt=0
 ·rw [if_pos h0]
  rw [decide_eq_true h0] at hw
  clear h0
  go_enter Tryz.func51,Tryz.ntmps51
  go_wp2_with (go_at_call 89;refine (spop_ok HC.out.buf).mono ?_;rintro e w2 ⟨rfl,c2,b2⟩)
  go_end0
  exact ⟨rfl,HC.out.entries c2 b2 (fun e he=>HC.out.ok.pos.es e (List.mem_of_mem_tail he)),c2⟩
 ·rw [if_neg h0]
  rw [decide_eq_false h0] at hw
  clear h0
  go_enter Tryz.func51,Tryz.ntmps51
  go_wp2_with fail
  go_end0
  exact ⟨rfl,HC.out,Chg.refl _ _⟩
end
end Go.Proofs.YtcjoinhngdfdmaaGreatDoor
end
