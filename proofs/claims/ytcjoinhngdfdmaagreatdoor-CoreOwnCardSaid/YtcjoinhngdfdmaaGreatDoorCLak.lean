/- Texts of the walk, one behind the other: Mfh Mfi Pre Prf Sbm Evt. No condition. -/
import Derived.Test.YtcjoinhngdfdmaaGreatDoorCLaa
import Derived.Test.YtcjoinhngdfdmaaGreatDoorCLaj
import Derived.BigQuiet
import Derived.Deep.Cut
import Derived.Deep.CutBlock
import Derived.Deep.CutRange
import Derived.Deep.DeepCutAuto
import Derived.Deep.QuietTactic
import Derived.Deep.RegionHeld3
import Derived.Deep.RegionWith
namespace Go.Proofs.YtcjoinhngdfdmaaGreatDoor
open Go.RowKit
set_option linter.unusedVariables false
set_option maxHeartbeats 1000000
set_option maxRecDepth 100000
attribute [local go_sem ↓] append_appS copy_copS clear_clrS make_mkS cell_row frozen_row loadLine storeLine loadSlot storeSlot heap_drew heap_drewN heap_alloc heap_past heap_setCell heap_putRow slc_st slc_li slc_us slice_slS loadMsg storeMsg loadHas storeHas msc_kd msc_li msc_di msc_ke
attribute [local go_sem] rowCell_some rowFrozen_some rowHas_some rowIn_some rowPart_full rowPut_full rowSet_some vs_size vs_one wideLine wideSlot run_loadS run_storeS run_appS run_copS run_clrS run_mkS loadW_at storeW_at fit_all fit_le one_int one_bool one_pointer one_slice allOne_list putRow_new ne_size1 ne_size2 zero8_length lines_nil line_eq lit8 slc_size slc_one slc_part fold_slt fold_slc slc_set_us wideMsg wideHas run_slS msc_size msc_one msc_part fold_msc msc_putDi msc_putKe msc_putX ms4_lit
attribute [local simp ↓] heap_drew heap_drewN heap_alloc heap_past heap_setCell heap_putRow
attribute [local simp] rowCell_some rowFrozen_some rowHas_some rowIn_some rowPart_full rowPut_full rowSet_some vs_size fit_all putRow_new ne_size1 ne_size2 zero8_length slc_size msc_size msc_putDi msc_putKe msc_putX fit_le
attribute [local go_sem ↓] ec_he ec_di ec_ow ec_sh ec_bu ec_by ec_wa sc_to
attribute [local go_sem] mi_and mi_or mi_not mi_beq0 mi_bne0 ec_size ec_one ec_part ec_in ec_has ec_setDi ec_setOw ec_setSh ec_setBu ec_setBy ec_setWa ec_setSh0 ec_setWa0 ec_putM sc_size sc_one sc_part
attribute [local simp] ec_size sc_size ec_setDi ec_setOw ec_setSh ec_setBu ec_setBy ec_setWa ec_setSh0 ec_setWa0 ec_putM
attribute [local go_sem ↓] loadEn storeEn loadSd storeSd en_z0
attribute [local go_sem] wideEn wideSd fold_sc size11 putRow_newB putRow_newC ms5_lit
attribute [local simp] en_z0 putRow_newB putRow_newC fit_le ec_has
attribute [local go_sem ↓] mlitZ zenc_po zenc_en zenc_q
attribute [local simp] mlitZ
section
theorem mul64_one (n:Nat) (hn:n≤64) (w:World):Calls Tryz.prog 168 #[.int .u64 1,.int .u64 n] w fun e w'=>e=.returned (.tuple #[.int .u64 0,.int .u64 n])∧w=w':=by
 have b1:bits BinOp.and IntKind.u64 1 4294967295=1:=by decide
 have b0:bits BinOp.and IntKind.u64 0 4294967295=0:=by decide
 have b2:bits BinOp.and IntKind.u64 (n:Int) 4294967295=(n:Int):=by
  have:∀k:Fin 65,bits BinOp.and IntKind.u64 ((k.val:Nat):Int) 4294967295=((k.val:Nat):Int):=by decide
  exact this ⟨n,by omega⟩
 have d0:(n:Int) / 4294967296=0:=by omega
 have w1:IntKind.u64.wrap (n:Int)=(n:Int):=by
  have:∀k:Fin 65,IntKind.u64.wrap ((k.val:Nat):Int)=((k.val:Nat):Int):=by decide
  exact this ⟨n,by omega⟩
 have w0:IntKind.u64.wrap 0=0:=by decide
 go_enter Tryz.func168,Tryz.ntmps168
 try dsimp only [List.append]
 go_wp2_with fail
 go_ret2
 exact ⟨by simp,rfl⟩
theorem mul_one (n:Nat) (hn:n≤64) (w:World):Calls Tryz.prog 121 #[.int .u64 1,.int .u64 n] w fun e w'=>e=.returned (.tuple #[.int .u64 0,.int .u64 n])∧w=w':=by
 go_enter Tryz.func121,Tryz.ntmps121
 try dsimp only [List.append]
 go_wp2_with (first |(go_at_call 168;refine (mul64_one n hn _).mono ?_;rintro e w' ⟨rfl,rfl⟩))
 go_ret2
 exact ⟨rfl,rfl⟩
theorem made_sq {α:Type} {enc:α→List Value} {k:Nat} (hk:∀a,(enc a).length=k) (h0:0<k) (a0:α) (n:Nat):madeCells (enc a0).toArray (n*k)=sq enc (List.replicate n a0) []:=by
 apply Array.ext
 ·rw [sq_size hk];simp [madeCells]
 ·intro i h1 h2
  have hi:i<n*k:=by simpa [madeCells] using h1
  obtain ⟨j,d,hj,hd,rfl⟩:∃j d,j<n∧d<k∧i=j*k+d:=⟨i / k,i % k,by rw [Nat.div_lt_iff_lt_mul h0];exact hi,Nat.mod_lt _ h0,by rw [Nat.mul_comm];exact (Nat.div_add_mod i k).symm⟩
  have h3:(List.replicate n a0)[j]? =some a0:=by rw [List.getElem?_replicate,if_pos hj]
  have h4:=sq_cell hk h3 [] d hd
  rw [Array.getElem?_eq_getElem h2] at h4
  have e11:(enc a0).toArray.size=k:=by simp [hk]
  have hmod:(j*k+d) % k=d:=by rw [Nat.add_comm,Nat.add_mul_mod_self_right,Nat.mod_eq_of_lt hd]
  simp only [madeCells,Array.getElem_map,Array.getElem_range]
  have h5:((enc a0).toArray)[d]? =(enc a0)[d]?:=by rw [List.getElem?_toArray]
  rw [←h4,Array.getElem?_eq_getElem (by rw [e11];exact hd)] at h5
  rw [e11,hmod,getElem!_pos (enc a0).toArray d (by rw [e11];exact hd)]
  exact Option.some.inj h5
section
variable {P:Program} {t e:TypeId} {ty:TypeId}
theorem run_copy_min {t':TypeId} {i:TypeInfo} (ht:P.underlying t=some (.slice e)) (hi:P.info? e=some i) (w:World) (b o:Nat) (A:Option Addr) (n c m d k:Nat) (xs:List Value) (hk:Nat.min n m=k) (h:Sl w i.size A k xs) (h1:∀v∈xs,v.oneCell'=true) (hb:rowHas (w.heap[b]?) o xs.length=true):
 copR P t t' ty #[.slice (some ⟨b,o,none⟩) m d,.slice A n c] w=.ok (goInt k) (putRow w b o xs.toArray):=by
 have hf:=run_firstCells_sl (P:=P) w i.size k A n c xs h
 have hst:=run_storeCells_cells (P:=P) b o xs 0 w ?_ ?_ h1
 ·simp only [Nat.add_zero] at hst
  simp [copR,Builtin.copy_,run_underlying ht,Builtin.lenOf,sizeOf,typeInfo,hi,hf,hst,putRow,hk]
 all_goals
  intro j hj
  rw [Nat.add_zero]
  cases e:w.heap[b]? with
  |none=>rw [e] at hb;cases hb
  |some x=>
   rw [e] at hb
   cases x with
   |cells c t f=>
    simp [rowHas] at hb
    obtain ⟨hb,rfl⟩:=hb
    have:=hb.out
    first
     |(rw [cell_row,e,rowCell_some];simp;omega)
     |(rw [frozen_row,e,rowFrozen_some])
   |_=>simp [rowHas] at hb
end
theorem cat_more {α:Type} {k:Nat} {enc:α→List Value} (hk:∀a,(enc a).length=k) (xs ys zs:List α) (h:zs.length≤ys.length):splice (cat enc (xs++ys)) (xs.length*k) (cat enc zs)=cat enc (xs++zs++ys.drop zs.length):=by
 unfold splice
 rw [cat_append,cat_append,cat_append,List.take_left' (cat_length hk xs),List.drop_append,List.drop_eq_nil_of_le (by rw [cat_length hk,cat_length hk];omega),cat_length hk,cat_length hk,List.nil_append,Nat.add_sub_cancel_left]
 congr 1
 have:∀(n:Nat) (l:List α),(cat enc l).drop (n*k)=cat enc (l.drop n):=by
  intro n
  induction n with
  |zero=>intro l;simp
  |succ n ih=>
   intro l
   cases l with
   |nil=>simp [cat]
   |cons a l=>
    rw [List.drop_succ_cons,←ih l,cat_cons,Nat.add_mul,Nat.one_mul,Nat.add_comm,←hk a,List.drop_append]
    simp
 exact this _ _
theorem en_info:(Tryz.prog.info? 129).map (fun i=>(i.zero,i.size,i.bytes))=some (some (.agg (ec enZ)),15,112):=by kernel_rfl
def repE (e:En) (n k:Nat):List En:=List.replicate k e++List.replicate (n-k) enZ
theorem repE_len (e:En) (n k:Nat) (h:k≤n):(repE e n k).length=n:=by simp [repE];omega
theorem repE_zero (e:En) (n:Nat):repE e n 0=List.replicate n enZ:=by simp [repE]
theorem repE_all (e:En) (n:Nat):repE e n n=List.replicate n e:=by simp [repE]
theorem repE_put (e:En) (n k j:Nat) (hj:k+j≤n) (t:TypeId) (f:Nat×Nat):rowPut (some (.cells (sq En.enc (repE e n k) []) t f)) (k*15) (cat En.enc (List.replicate j e)).toArray=some (.cells (sq En.enc (repE e n (k+j)) []) t f):=by
 rw [rowPut_some,sq_toList,List.append_nil,List.toList_toArray]
 have h1:splice (cat En.enc (repE e n k)) (k*15) (cat En.enc (List.replicate j e))=cat En.enc (repE e n (k+j)):=by
  have h2:=cat_more En.len (List.replicate k e) (List.replicate (n-k) enZ) (List.replicate j e) (by simp;omega)
  rw [List.length_replicate] at h2
  unfold repE
  rw [h2,List.length_replicate,List.replicate_append_replicate,List.drop_replicate,show n-k-j=n-(k+j) by omega]
 rw [h1]
 unfold sq
 rw [List.append_nil]
theorem run_make_ents (w:World) (n:Nat) (hn:n≤64):mkR Tryz.prog 82 (.int .i64 n) (.int .i64 n) w=.ok (.slice (some ⟨w.heap.size,0,none⟩) n n) (w.alloc (.cells (sq En.enc (List.replicate n enZ) []) 129)):=by
 obtain ⟨i0,hi0,hz0,hz1,hz2⟩:=info_parts en_info
 have:=run_make (P:=Tryz.prog) w 82 129 i0 _ Tryz.underlying82 hi0 hz0 .i64 .i64 n n (by omega) (by omega) (by rw [hz2];omega) (by omega)
 simp only [Int.toNat_natCast,hz1] at this
 rw [←made_sq En.len (by decide)]
 exact this
theorem slR_from (w:World) (b n k:Nat) (hk:k<n):slR Tryz.prog 82 (.slice (some ⟨b,0,none⟩) n n) (some (.int .i64 k)) none none w=.ok (.slice (some ⟨b,k*15,none⟩) (n-k) (n-k)) w:=by
 obtain ⟨i0,hi0,hz0,hz1,hz2⟩:=info_parts en_info
 unfold slR
 have h1:(0:Int)≤(k:Int):=by omega
 have h4:k≤n:=by omega
 have h5:¬n=k:=by omega
 simp [Instr.slice,Instr.sliceBounds,Instr.sliceBound,asIntOf,run_underlying Tryz.underlying82,sizeOf,typeInfo,hi0,hz1,h1,h4,h5,Addr.add]
 omega
theorem slR_to (w:World) (b n k:Nat) (hk:k≤n):slR Tryz.prog 82 (.slice (some ⟨b,0,none⟩) n n) none (some (.int .i64 k)) none w=.ok (.slice (some ⟨b,0,none⟩) k n) w:=by
 obtain ⟨i0,hi0,hz0,hz1,hz2⟩:=info_parts en_info
 unfold slR
 have h1:(0:Int)≤(k:Int):=by omega
 simp [Instr.slice,Instr.sliceBounds,Instr.sliceBound,asIntOf,run_underlying Tryz.underlying82,sizeOf,typeInfo,hi0,h1,Addr.add]
 intro h;omega
theorem ent_copyS (w:World) (b e0 n k m d c:Nat) (A:Option Addr) (o:Nat) (xs:List En) (hk:Nat.min c m=k) (h:Sl w 15 A k (cat En.enc xs)) (hb:rowHas (w.heap[b]?) o (cat En.enc xs).length=true):
 copR Tryz.prog 82 82 3 #[.slice (some ⟨b,o,none⟩) m d,.slice A c n] w=.ok (goInt k) (putRow w b o (cat En.enc xs).toArray):=by
 obtain ⟨i0,hi0,hz0,hz1,hz2⟩:=info_parts en_info
 rw [←hz1] at h
 exact run_copy_min Tryz.underlying82 hi0 w b o A c n m d k _ hk h (fun v hv=>cat_one_cell En.one xs v hv) hb
theorem repeat_ok (e:En) (b n:Nat) (w:World) (hb:w.heap[b]? =some (.cells (sq En.enc [e] []) 129 (0,0))) (h1:1≤n) (hn:n≤64):
 Calls Tryz.prog 72 #[.slice (some ⟨b,0,none⟩) 1 1,.int .i64 n] w fun r w'=>∃b',r=.returned (.slice (some ⟨b',0,none⟩) n n)∧w'.heap[b']? =some (.cells (sq En.enc (List.replicate n e) []) 129 (0,0))∧w.heap.size≤b'∧Chg [] w w':=by
 have hmk:=fun W=>run_make_ents W n hn
 have HB:=Lib.hid hb
 have OB:=Lib.hid (old hb)
 have g0:(0:Int)≤(n:Int):=by omega
 have g1:(n:Int)≤64:=by omega
 have t1:decide ((n:Int)<0)=false:=by simp
 have u1:IntKind.u64.wrap (n:Int)=(n:Int):=by
  have:∀k:Fin 65,IntKind.u64.wrap ((k.val:Nat):Int)=((k.val:Nat):Int):=by decide
  exact this ⟨n,by omega⟩
 have u2:IntKind.i64.wrap (n:Int)=(n:Int):=by
  have:∀k:Fin 65,IntKind.i64.wrap ((k.val:Nat):Int)=((k.val:Nat):Int):=by decide
  exact this ⟨n,by omega⟩
 have t2:decide ((9223372036854775807:Int)<(n:Int))=false:=by simp;omega
 have c1:=(Chg.refl [] w).alloc (.cells (sq En.enc (List.replicate n enZ) []) 129)
 have hz:(w.alloc (.cells (sq En.enc (List.replicate n enZ) []) 129)).heap[w.heap.size]? =some (.cells (sq En.enc (repE e n 0) []) 129 (0,0)):=by rw [repE_zero];simp
 have hcp:=ent_copyS (w.alloc (.cells (sq En.enc (List.replicate n enZ) []) 129)) w.heap.size 0 1 1 n n 1 (some ⟨b,0,none⟩) 0 [e] (Nat.min_eq_left h1) ⟨by rw [cat_length En.len];rfl,.inr ⟨b,0,_,_,_,rfl,c1.keep hb (by simp),by rw [sq_toList,List.append_nil,List.drop_zero,List.take_of_length_le (by rw [cat_length En.len];exact Nat.le_refl _)]⟩⟩ (by
  rw [hz,rowHas_some,sq_size En.len,repE_len e n 0 (by omega),cat_length En.len]
  exact decide_eq_true (show 0+[e].length*15≤n*15+([]:List Value).length by simp;omega))
 have hw2:(putRow (w.alloc (.cells (sq En.enc (List.replicate n enZ) []) 129)) w.heap.size 0 (cat En.enc [e]).toArray).heap[w.heap.size]? =some (.cells (sq En.enc (repE e n 1) []) 129 (0,0)):=by
  rw [heap_putRow _ _ _ _ _ (by
   rw [hz,rowHas_some,sq_size En.len,repE_len e n 0 (by omega)]
   refine decide_eq_true (show 0+(cat En.enc [e]).toArray.size≤n*15+([]:List Value).length from ?_)
   rw [List.size_toArray,cat_length En.len];simp;omega),if_pos rfl,hz]
  have:=repE_put e n 0 1 (by omega) 129 (0,0)
  simpa using this
 have HC2:=Lib.hid (c1.putRow w.heap.size 0 (cat En.enc [e]).toArray (.inr (Nat.le_refl _)))
 have HW2:=Lib.hid hw2
 clear hb hz c1 hw2
 go_enter Tryz.func72,Tryz.ntmps72
 try dsimp only [List.append]
 go_wp2_with (first |(go_at_call 121;refine (mul_one n hn _).mono ?_;rintro e w' ⟨rfl,rfl⟩))
 have HLE:=Lib.hid (Nat.le_refl w.heap.size)
 generalize hb2:w.heap.size=b2 at hcp HC2 HW2 HLE ⊢
 have HB2:=Lib.hid hb2
 generalize putRow (w.alloc (.cells (sq En.enc (List.replicate n enZ) []) 129)) b2 0 (cat En.enc [e]).toArray=w3 at HC2 HW2 ⊢
 clear hcp hb2
 go_loopw [8] (fun ix wr=>∃k:Nat,1≤k∧k≤n∧ix=.int .i64 k∧wr.heap[b2]? =some (.cells (sq En.enc (repE e n k) []) 129 (0,0))∧Chg [] w wr) (fun ix _=>n-(intOf ix).toNat)
 case atStart=>exact ⟨1,by omega,h1,rfl,HW2.out,HC2.out⟩
 case round=>
  obtain ⟨k,hk1,hkn,rfl,hk,hck⟩:=hrel
  by_cases hlt:k<n
  ·have q1:(k:Int)<(n:Int):=by omega
   have HCK:=Lib.hid hck
   have HK:=Lib.hid hk
   have s1:=fun W=>slR_from W b2 n k hlt
   have s2:=fun W=>slR_to W b2 n k hkn
   obtain ⟨j,hj⟩:∃j,min k (n-k)=j:=⟨_,rfl⟩
   have hj1:1≤j∧k+j≤n:=by omega
   have hjk:j≤k:=by omega
   have hwr:wrap64 ((k:Int)+(j:Int))=((k+j:Nat):Int):=by unfold wrap64;omega
   have hro:rowHas ((wr.drew).heap[b2]?) (k*15) (cat En.enc (List.replicate j e)).length=true:=by
    rw [heap_drew,hk,rowHas_some,sq_size En.len,repE_len e n k hkn,cat_length En.len,List.length_replicate]
    refine decide_eq_true (show k*15+j*15≤n*15+([]:List Value).length from ?_)
    simp;omega
   have hcp:=ent_copyS wr.drew b2 0 n j (n-k) (n-k) k (some ⟨b2,0,none⟩) (k*15) (List.replicate j e) hj ⟨by rw [cat_length En.len,List.length_replicate],.inr ⟨b2,0,_,_,_,rfl,hk,by
    rw [sq_toList,List.append_nil,List.drop_zero,cat_take En.len]
    unfold repE
    rw [List.take_append_of_le_length (by simp;omega),List.take_replicate,Nat.min_eq_left hjk]⟩⟩ hro
   have hw4:(putRow wr.drew b2 (k*15) (cat En.enc (List.replicate j e)).toArray).heap[b2]? =some (.cells (sq En.enc (repE e n (k+j)) []) 129 (0,0)):=by
    rw [heap_putRow _ _ _ _ _ (by rw [List.size_toArray];exact hro),if_pos rfl,heap_drew,hk]
    exact repE_put e n k j hj1.2 _ _
   have HW4:=Lib.hid hw4
   have HJ:=Lib.hid hj1
   have HC4:=Lib.hid (hck.drew.putRow b2 (k*15) (cat En.enc (List.replicate j e)).toArray (.inr (by rw [HB2.out];exact Nat.le_refl _)))
   have HWR:=Lib.hid hwr
   clear hk hck hj hj1 hjk hro hw4 hwr
   go_wp2_with fail
   go_region
   all_goals
    go_wp2_with fail
    go_roundw
    case rel=>exact ⟨k+j,by have:=HJ.out;omega,HJ.out.2,by rw [HWR.out],HW4.out,HC4.out⟩
    case measure=>have:=HJ.out;rw [HWR.out];simp only [intOf];omega
  ·obtain rfl:k=n:=by omega
   have HK:=Lib.hid hk
   have HCK:=Lib.hid hck
   clear hk hck
   go_wp2_with fail
   go_ret
   refine ⟨b2,rfl,?_,by rw [HB2.out];exact Nat.le_refl _,HCK.out⟩
   rw [←repE_all]
   exact HK.out
end
section
def zp (o:Option Nat):List Value:=[.pointer (o.map fun g=>⟨g,0,none⟩),.slice none 0 0,.slice none 0 0,.slice none 0 0,.slice none 0 0,.slice none 0 0,.slice none 0 0]
theorem zp_len (o:Option Nat):(zp o).length=7:=rfl
theorem port_info:(Tryz.prog.info? 126).map (fun i=>(i.zero,i.size,i.bytes))=some (some (.agg (zp none).toArray),7,152):=by kernel_rfl
theorem run_make_ports (w:World) (n:Nat) (hn:n≤64):mkR Tryz.prog 81 (.int .i64 n) (.int .i64 n) w=.ok (.slice (some ⟨w.heap.size,0,none⟩) n n) (w.alloc (.cells (sq zp (List.replicate n none) []) 126)):=by
 obtain ⟨i0,hi0,hz0,hz1,hz2⟩:=info_parts port_info
 have:=run_make (P:=Tryz.prog) w 81 126 i0 _ Tryz.underlying81 hi0 hz0 .i64 .i64 n n (by omega) (by omega) (by rw [hz2];omega) (by omega)
 simp only [Int.toNat_natCast,hz1] at this
 rw [←made_sq zp_len (by decide)]
 exact this
abbrev Trip:=Nat×Nat×Nat
def rowsZ (gs:List Trip) (n:Nat):List (Option Nat):=gs.map (fun y=>some y.1)++List.replicate (n-gs.length) none
theorem rowsZ_nil (n:Nat):rowsZ [] n=List.replicate n none:=by simp [rowsZ]
theorem rowsZ_at (gs:List Trip) (n:Nat) (h:gs.length<n):(rowsZ gs n)[gs.length]? =some none:=by
 unfold rowsZ
 rw [List.getElem?_append_right (by simp),List.length_map,Nat.sub_self,List.getElem?_replicate,if_pos (by omega)]
theorem rowsZ_set (gs:List Trip) (n:Nat) (y:Trip) (h:gs.length<n):(rowsZ gs n).set gs.length (some y.1)=rowsZ (gs++[y]) n:=by
 unfold rowsZ
 rw [List.set_append_right _ _ (by simp),List.length_map,Nat.sub_self,show n-gs.length=(n-(gs++[y]).length)+1 by simp;omega,List.replicate_succ,List.set_cons_zero,List.map_append]
 simp
def trips (gs:List Trip):List Nat:=gs.flatMap fun y=>[y.1,y.2.1,y.2.2]
theorem trips_snoc (gs:List Trip) (y:Trip):trips (gs++[y])=trips gs++[y.1,y.2.1,y.2.2]:=by simp [trips]
def st0 (c:Cg):Sta:=(List.replicate (c.se*c.wa) sltZ,0)
def pt0 (c:Cg):Pt:=⟨st0 c,[],[],[]⟩
def mkPo (po:Nat) (y:Trip):Po:=⟨y.1,y.2.1,y.2.2,po,none,0,po,none,0,po,none,0⟩
theorem mkPo_foot (po:Nat) (y:Trip):(mkPo po y).foot po=[y.1,y.2.1,y.2.2]:=by simp [Po.foot,mkPo,opt]
theorem Agt.weak {W w0 w:World} {g a b S N:Nat} {s:Sta} (h:Agt w0 w g a b S N s) (hc:Chg [] W w0):Agt W w g a b S N s:=
 ⟨⟨hc.trans h.1.1,h.1.2.1,Nat.le_trans hc.size h.1.2.2.1,Nat.le_trans hc.size h.1.2.2.2⟩,h.2.1,Nat.le_trans hc.size h.2.2.1,h.2.2.2⟩
theorem sq_oneE (e:En):sq En.enc [e] []=ec e:=by simp [sq,cat,ec]
theorem cat_map {α β:Type} (enc:β→List Value) (f:α→β) (xs:List α):cat enc (xs.map f)=cat (fun a=>enc (f a)) xs:=by unfold cat;rw [List.map_map];rfl
def portsOf (po:Nat) (c:Cg) (gs:List Trip):List (Po×Pt):=gs.map fun y=>(mkPo po y,pt0 c)
theorem portsOf_sq (po:Nat) (c:Cg) (gs:List Trip) (n:Nat) (h:gs.length=n):sq zp (rowsZ gs n) []=sq penc (portsOf po c gs) []:=by
 unfold sq rowsZ portsOf
 simp only [h,Nat.sub_self,List.replicate_zero,List.append_nil,cat_map]
 rfl
theorem portsOf_feet (po:Nat) (c:Cg) (gs:List Trip):feet po (portsOf po c gs)=trips gs:=by
 unfold feet portsOf trips
 rw [List.map_map,List.flatMap_def]
 congr 1
 apply List.map_congr_left
 intro y _
 exact mkPo_foot po y
theorem portsOf_ports (po:Nat) (c:Cg) (gs:List Trip):ports (portsOf po c gs)=List.replicate gs.length (pt0 c):=by
 unfold ports portsOf
 rw [List.map_map]
 exact List.map_const'
structure Cg.Ok (c:Cg):Prop where
 co1:1≤c.co
 co8:c.co≤8
 li2:2≤c.li
 li64:c.li≤64
 vo1:1≤c.vo
 vol:c.vo<c.li
 new:goodNew (c.se:Int) (c.wa:Int)
 qu1:1≤c.qu
 qu16:c.qu≤16
 st1:1≤c.st
 st16:c.st≤16
def Fresh (W w:World) (c:Cg) (sy:Nat) (C:Array Value) (w':World):Prop:=
 ∃po en L,w'.heap[sy]? =some (.cells ((C.setIfInBounds 8 (.slice (some ⟨po,0,none⟩) c.co c.co)).setIfInBounds 9 (.slice (some ⟨en,0,none⟩) c.li c.li)) 91 (0,0))∧
  w'.heap[po]? =some (.cells (sq penc L []) 126 (0,0))∧L.length=c.co∧w'.heap[en]? =some (.cells (sq En.enc (List.replicate c.li enE) []) 129 (0,0))∧(∀y∈L,PortOk W w' po c.se c.wa y)∧
  ports L=List.replicate c.co (pt0 c)∧(po::en::feet po L).Nodup∧(∀k∈po::en::feet po L,w.heap.size≤k)∧Chg [sy] w w'
theorem forget_ok (W w:World) (c:Cg) (hc:c.Ok) (sy:Nat) (C:Array Value) (hW:Chg [] W w) (hsW:W.heap.size≤sy) (hs:w.heap[sy]? =some (.cells C 91 (0,0))) (c0:C[0]? =some (.int .i64 c.co)) (c1:C[1]? =some (.int .i64 c.li)) (c3:C[3]? =some (.int .i64 c.se)) (c4:C[4]? =some (.int .i64 c.wa))
 (v8 v9:Value) (c8:C[8]? =some v8) (c9:C[9]? =some v9):Calls Tryz.prog 36 #[.pointer (some ⟨sy,0,none⟩)] w fun e w'=>e=.returned (.tuple #[])∧Fresh W w c sy C w':=by
 have hmk:=fun W=>run_make_ports W c.co (by have:=hc.co8;omega)
 have HC:=Lib.hid hc
 have HW:=Lib.hid hW
 have HSW:=Lib.hid hsW
 have H9:=Lib.hid c9
 have H8:=Lib.hid c8
 have os:=old hs
 have nsz:sy≠w.heap.size:=by have:=os.lt;omega
 have nsz':w.heap.size≠sy:=Ne.symm nsz
 have HS0:=Lib.hid hs
 have gco:(c.co:Int)≤8:=by have:=hc.co8;omega
 clear hc hW hsW
 go_enter Tryz.func36,Tryz.ntmps36
 try dsimp only [List.append]
 go_upto_region 1 with fail
 have rS:((w.alloc (.cells (sq zp (List.replicate c.co none) []) 126)).setCell ⟨sy,8,none⟩ (.slice (some ⟨w.heap.size,0,none⟩) c.co c.co)).heap[sy]? =some (.cells (C.setIfInBounds 8 (.slice (some ⟨w.heap.size,0,none⟩) c.co c.co)) 91 (0,0)):=by
  rw [heap_setCell,if_pos rfl,heap_alloc,hs];rfl
 have rP:((w.alloc (.cells (sq zp (List.replicate c.co none) []) 126)).setCell ⟨sy,8,none⟩ (.slice (some ⟨w.heap.size,0,none⟩) c.co c.co)).heap[w.heap.size]? =some (.cells (sq zp (rowsZ [] c.co) []) 126 (0,0)):=by
  rw [heap_setCell,if_neg nsz',rowsZ_nil];exact new_blk _ _
 have K1:=Lib.hid (((Chg.refl [sy] w).alloc (.cells (sq zp (List.replicate c.co none) []) 126)).setCell sy 8 (.slice (some ⟨w.heap.size,0,none⟩) c.co c.co) (.inl (by simp)))
 have d0:(C.setIfInBounds 8 (.slice (some ⟨w.heap.size,0,none⟩) c.co c.co))[0]? =some (.int .i64 c.co):=set_other c0 (by decide)
 have d1:(C.setIfInBounds 8 (.slice (some ⟨w.heap.size,0,none⟩) c.co c.co))[1]? =some (.int .i64 c.li):=set_other c1 (by decide)
 have d3:(C.setIfInBounds 8 (.slice (some ⟨w.heap.size,0,none⟩) c.co c.co))[3]? =some (.int .i64 c.se):=set_other c3 (by decide)
 have d4:(C.setIfInBounds 8 (.slice (some ⟨w.heap.size,0,none⟩) c.co c.co))[4]? =some (.int .i64 c.wa):=set_other c4 (by decide)
 have d8:(C.setIfInBounds 8 (.slice (some ⟨w.heap.size,0,none⟩) c.co c.co))[8]? =some (.slice (some ⟨w.heap.size,0,none⟩) c.co c.co):=set_this c8
 have d9:=Lib.hid (show (C.setIfInBounds 8 (.slice (some ⟨w.heap.size,0,none⟩) c.co c.co))[9]? =some v9 from set_other c9 (by decide))
 have HPO:=Lib.hid (Nat.le_refl w.heap.size)
 have HSY:=Lib.hid os.lt
 generalize hpo:w.heap.size=po at rS rP K1 d0 d1 d3 d4 d8 d9 nsz nsz' HPO HSY ⊢
 have HB:=Lib.hid hpo
 generalize hC8:C.setIfInBounds 8 (.slice (some ⟨po,0,none⟩) c.co c.co)=C8 at rS d0 d1 d3 d4 d8 d9
 have HC8:=Lib.hid hC8
 generalize (w.alloc (.cells (sq zp (List.replicate c.co none) []) 126)).setCell ⟨sy,8,none⟩ (.slice (some ⟨po,0,none⟩) c.co c.co)=w1 at rS rP K1 ⊢
 clear hpo hC8 hs os c0 c1 c3 c4 c8 c9 hmk
 go_wp2_with fail
 have hp1:po<w1.heap.size:=lt_heap rP
 go_loopw [17] (fun ix wr=>∃gs:List Trip,gs.length≤c.co∧ix=.int .i64 gs.length∧wr.heap[sy]? =some (.cells C8 91 (0,0))∧wr.heap[po]? =some (.cells (sq zp (rowsZ gs c.co) []) 126 (0,0))∧
  (∀y∈gs,Agt W wr y.1 y.2.1 y.2.2 c.se c.wa (st0 c))∧(trips gs).Nodup∧(∀x∈trips gs,po<x∧x<wr.heap.size)∧Chg [sy] w wr) (fun ix _=>c.co-(intOf ix).toNat)
 case atStart=>exact ⟨[],by simp,rfl,rS,rP,by simp,by simp [trips],by simp [trips],K1.out⟩
 case round=>
  clear rS rP hp1
  obtain ⟨gs,hg,rfl,rS,rP,hag,hnd,hlt,hch⟩:=hrel
  have HAG:=Lib.hid hag
  have HND:=Lib.hid hnd
  have HLT:=Lib.hid hlt
  have HCH:=Lib.hid hch
  clear hag hnd hlt hch
  obtain ⟨k,hk⟩:∃k,gs.length=k:=⟨_,rfl⟩
  have HKK:=Lib.hid hk
  rw [hk] at hg ⊢
  clear hk
  by_cases hlk:k<c.co
  ·have g1:(k:Int)<(c.co:Int):=by omega
   have g0:(0:Int)≤(k:Int):=by omega
   have hnew:=gnew_ok c.se c.wa wr wr.drew (Chg.refl [] wr).drew HC.out.new
   have HN:=Lib.hid hnew
   have RP:=Lib.hid rP
   have hz:(sq zp (rowsZ gs c.co) [])[k*7]? =some (.pointer none):=by
    have h1:=rowsZ_at gs c.co (by rw [HKK.out];exact hlk)
    rw [HKK.out] at h1
    exact sq_cell zp_len h1 [] 0 (by decide)
   have oS:=old rS
   have oP:=old rP
   clear hnew
   go_wp2_with fail
   go_region_held3 (fun w'=>w'.heap[sy]? =some (.cells C8 91 (0,0)))
    (first |(rw [heap_setCell,if_neg nsz];exact s5)|exact s5|exact rS)
    (first |(go_at_call 71;refine HN.out.mono ?_;rintro e w' ⟨g,a,b,rfl,hA5,hc5⟩;have s5:=hc5.keep rS List.not_mem_nil;have p5:=hc5.keep rP List.not_mem_nil;have o5:=old p5;have os5:=old s5))
   all_goals
    have hk0:=HKK.out
    have hlk':gs.length<c.co:=by rw [hk0];exact hlk
    have cp:Chg [po] w' (w'.setCell ⟨po,k*7,none⟩ (.pointer (some ⟨g,0,none⟩))):=(Chg.refl [po] w').setCell po (k*7) _ (.inl (by simp))
    have s6:(w'.setCell ⟨po,k*7,none⟩ (.pointer (some ⟨g,0,none⟩))).heap[sy]? =some (.cells C8 91 (0,0)):=by rw [heap_setCell,if_neg nsz];exact s5
    have p6:(w'.setCell ⟨po,k*7,none⟩ (.pointer (some ⟨g,0,none⟩))).heap[po]? =some (.cells (sq zp (rowsZ (gs++[(g,a,b)]) c.co) []) 126 (0,0)):=by
     rw [heap_setCell,if_pos rfl,p5,rowSet_some]
     have h1:=rowsZ_at gs c.co hlk'
     have h2:=sq_put (o:=0) (b:=some g) (v:=.pointer (some ⟨g,0,none⟩)) zp_len h1 (by decide) rfl
     rw [rowsZ_set gs c.co (g,a,b) hlk',hk0,Nat.add_zero] at h2
     rw [h2]
    have hWr:Chg [] W wr:=HW.out.trans' HCH.out (fun x hx=>.inr (by rw [List.mem_singleton.1 hx];exact HSW.out))
    have hpW:W.heap.size≤po:=by rw [←HB.out];exact HW.out.size
    have hl2:=hA5.old2
    have hl1:=lt_heap hA5.2.1
    have hlg:=hA5.2.2.1
    have hla:=hA5.1.2.2
    have hgn:=hA5.2.2.2.1
    have hab:=hA5.1.2.1.2.2.1
    have hpr:=oP.lt
    have hcs:wr.heap.size≤w'.heap.size:=hc5.size
    have hsz6:(w'.setCell ⟨po,k*7,none⟩ (.pointer (some ⟨g,0,none⟩))).heap.size=w'.heap.size:=by simp
    simp only [List.mem_cons,List.not_mem_nil,or_false,forall_eq_or_imp,forall_eq] at hl2 hgn
    have HG6:=Lib.hid (show ∀y∈gs++[(g,a,b)],Agt W (w'.setCell ⟨po,k*7,none⟩ (.pointer (some ⟨g,0,none⟩))) y.1 y.2.1 y.2.2 c.se c.wa (st0 c) by
     have hpl:∀x∈[po],W.heap.size≤x:=fun x hx=>by rw [List.mem_singleton.1 hx];exact hpW
     intro y hy
     rcases List.mem_append.1 hy with h1|h1
     ·have hin:∀x,x∈[y.1,y.2.1,y.2.2]→x∉[po]:=by
       intro x hx hm
       have h2:=(HLT.out x (List.mem_flatMap.2 ⟨y,h1,hx⟩)).1
       rw [List.mem_singleton.1 hm] at h2
       omega
      exact (((HAG.out y h1).keep (Chg.refl [] wr).drew).keep hc5).keepL cp hpl (hin _ (by simp)) (hin _ (by simp)) (hin _ (by simp))
     ·rw [List.mem_singleton.1 h1]
      exact (hA5.weak hWr).keepL cp hpl (by simp;omega) (by simp;omega) (by simp;omega))
    have HN6:=Lib.hid (show (trips (gs++[(g,a,b)])).Nodup by
     rw [trips_snoc,List.nodup_append]
     refine ⟨HND.out,by simp;omega,?_⟩
     intro x hx y hy e
     subst e
     have h2:=(HLT.out x hx).2
     simp only [List.mem_cons,List.not_mem_nil,or_false] at hy
     omega)
    have HL6:=Lib.hid (show ∀x∈trips (gs++[(g,a,b)]),po<x∧x<(w'.setCell ⟨po,k*7,none⟩ (.pointer (some ⟨g,0,none⟩))).heap.size by
     intro x hx
     rw [hsz6]
     rw [trips_snoc,List.mem_append] at hx
     rcases hx with h1|h1
     ·have:=HLT.out x h1;omega
     ·simp only [List.mem_cons,List.not_mem_nil,or_false] at h1
      omega)
    have HC6:=Lib.hid ((HCH.out.trans (((Chg.refl [] wr).drew.trans hc5).mono (by simp))).setCell po (k*7) (.pointer (some ⟨g,0,none⟩)) (.inr (by rw [HB.out];exact Nat.le_refl _)))
    have hlen:(gs++[(g,a,b)]).length=k+1:=by simp [hk0]
    have S6:=Lib.hid s6
    have P6:=Lib.hid p6
    have HLN:=Lib.hid hlen
    clear s5 p5 o5 os5 hA5 hc5 hk0 hlk' cp s6 p6 hWr hpW hl2 hl1 hlg hla hgn hab hpr hcs hsz6 hlen
    generalize w'.setCell ⟨po,k*7,none⟩ (.pointer (some ⟨g,0,none⟩))=w6 at *
    go_wp2_with fail
    go_roundw
    case rel=>exact ⟨gs++[(g,a,b)],by rw [HLN.out];omega,by rw [HLN.out];go_num,S6.out,P6.out,HG6.out,HN6.out,HL6.out,HC6.out⟩
    case measure=>simp [intOf];omega
  ·obtain rfl:k=c.co:=by omega
   have oS:=old rS
   have RP:=Lib.hid rP
   have e9:=d9.out
   have s0:rowCell (wr.heap[sy]?) 1=some (.int .i64 c.li):=by rw [rS,rowCell_some];exact d1
   clear rP
   go_wp2_with fail
   go_region_held3 (fun w'=>rowCell (w'.heap[sy]?) 1=some (.int .i64 c.li))
    (first |(rw [heap_setCell,if_pos rfl,s6,rowSet_some,rowCell_some];exact set_other d1 (by decide))|(rw [s6,rowCell_some];exact d1)|(rw [((Chg.refl [] _).alloc _).keep s5 List.not_mem_nil,rowCell_some];exact d1)|(rw [s5,rowCell_some];exact d1)|exact s0)
    (first
     |(go_at_call 73;refine (dempty_any _).mono ?_;rintro e w' ⟨rfl,c5⟩;have T5:=(Chg.refl [] wr).drew.trans c5;have s5:=T5.keep rS List.not_mem_nil)
     |(go_at_call 72;refine (repeat_ok enE _ c.li _ (by rw [sq_oneE];exact new_blk _ _) (by have:=HC.out.li2;omega) HC.out.li64).mono ?_;rintro e w' ⟨b9,rfl,e9b,l9,c6⟩;have T6:=(T5.alloc (.cells (ec enE) 129)).trans c6;have s6:=T6.keep rS List.not_mem_nil;have os6:=old s6))
   all_goals
    have hk0:=HKK.out
    have hpW:W.heap.size≤po:=by rw [←HB.out];exact HW.out.size
    have hcw:wr.heap.size≤w'.heap.size:=T6.size
    have hpo9:po<b9:=by have h1:=lt_heap RP.out;have h2:=T5.size;simp at l9;omega
    have hsy9:sy<b9:=by have h1:=HSY.out;omega
    have hl9:wr.heap.size≤b9:=by have h2:=T5.size;simp at l9;omega
    have cs:Chg [sy] w' (w'.setCell ⟨sy,9,none⟩ (.slice (some ⟨b9,0,none⟩) c.li c.li)):=(Chg.refl [sy] w').setCell sy 9 _ (.inl (by simp))
    have q1:(w'.setCell ⟨sy,9,none⟩ (.slice (some ⟨b9,0,none⟩) c.li c.li)).heap[sy]? =some (.cells ((C.setIfInBounds 8 (.slice (some ⟨po,0,none⟩) c.co c.co)).setIfInBounds 9 (.slice (some ⟨b9,0,none⟩) c.li c.li)) 91 (0,0)):=by
     rw [heap_setCell,if_pos rfl,s6,rowSet_some,HC8.out]
    have q2:(w'.setCell ⟨sy,9,none⟩ (.slice (some ⟨b9,0,none⟩) c.li c.li)).heap[po]? =some (.cells (sq penc (portsOf po c gs) []) 126 (0,0)):=by
     rw [←portsOf_sq po c gs c.co hk0]
     exact cs.keep (T6.keep RP.out (by simp)) (by simpa using Ne.symm nsz)
    have q3:(w'.setCell ⟨sy,9,none⟩ (.slice (some ⟨b9,0,none⟩) c.li c.li)).heap[b9]? =some (.cells (sq En.enc (List.replicate c.li enE) []) 129 (0,0)):=cs.keep e9b (by simp;omega)
    have HF:=Lib.hid (show Fresh W w c sy C (w'.setCell ⟨sy,9,none⟩ (.slice (some ⟨b9,0,none⟩) c.li c.li)) by
     refine ⟨po,b9,portsOf po c gs,q1,q2,by simp [portsOf,hk0],q3,?_,by rw [portsOf_ports,hk0],?_,?_,?_⟩
     ·intro y hy
      unfold portsOf at hy
      obtain ⟨y0,hy0,rfl⟩:=List.mem_map.1 hy
      have hin:∀x,x∈[y0.1,y0.2.1,y0.2.2]→x∉[sy]:=by
       intro x hx hm
       have h2:=(HLT.out x (List.mem_flatMap.2 ⟨y0,hy0,hx⟩)).1
       have h3:=HSY.out
       rw [List.mem_singleton.1 hm] at h2
       omega
      refine ⟨((HAG.out y0 hy0).keep T6).keepL cs (fun x hx=>by rw [List.mem_singleton.1 hx];exact HSW.out) (hin _ (by simp)) (hin _ (by simp)) (hin _ (by simp)),.inl ⟨rfl,rfl,rfl,rfl⟩,.inl ⟨rfl,rfl,rfl,rfl⟩,.inl ⟨rfl,rfl,rfl,rfl⟩⟩
     ·rw [portsOf_feet,List.nodup_cons,List.nodup_cons]
      refine ⟨?_,?_,HND.out⟩
      ·intro hm
       rcases List.mem_cons.1 hm with h1|h1
       ·omega
       ·have:=(HLT.out _ h1).1;omega
      ·intro hm
       have:=(HLT.out _ hm).2;omega
     ·rw [portsOf_feet]
      intro x hx
      rw [HB.out]
      rcases List.mem_cons.1 hx with h1|h1
      ·omega
      ·rcases List.mem_cons.1 h1 with h1|h1
       ·omega
       ·have:=(HLT.out x h1).1;omega
     ·exact (HCH.out.trans (T6.mono (by simp))).trans cs)
    clear cs q1 q2 q3 s5 s6 os6 T5 T6 c5 c6
    go_wp2_with fail
    go_end0
    exact ⟨rfl,HF.out⟩
end
end Go.Proofs.YtcjoinhngdfdmaaGreatDoor
namespace Go.Proofs.YtcjoinhngdfdmaaGreatDoor
open Go.RowKit
set_option linter.unusedVariables false
set_option maxHeartbeats 1000000
section
structure MDid where
 v:Int
 hit:Bool
 m:Ms
 e:Int
def did0:MDid:=⟨0,false,msZ,0⟩
def didE (e:Int):MDid:=⟨0,false,msZ,e⟩
def lnG (X:List Int) (i:Nat):List Int:=if (ln X i).length=8 then ln X i else zl8
theorem lnG_len (X:List Int) (i:Nat):(lnG X i).length=8:=by unfold lnG;split<;>first |assumption|rfl
theorem lnG_eq {X:List Int} {i:Nat} (h:(ln X i).length=8):lnG X i=ln X i:=by unfold lnG;rw [if_pos h]
def portAt (c:Cg) (S:Mst) (k:Int):Option Pt:=if inB k c.co=true then S.ps[k.toNat]? else none
def Mst.put (S:Mst) (k:Int) (x:Pt):Mst:=⟨S.ps.set k.toNat x,S.en,S.es,S.xs⟩
def loadM (c:Cg) (S:Mst) (k li wd:Int):Mst×MDid:=
 match portAt c S k with
 |none=>(S,did0)
 |some x=>if inB li c.li=true then (S.put k {x with s:=(loadF c.se c.wa x.s li wd).1,up:=x.up++(loadF c.se c.wa x.s li wd).2.2.2},⟨(loadF c.se c.wa x.s li wd).2.1,(loadF c.se c.wa x.s li wd).2.2.1,msZ,0⟩) else (S,did0)
def storeM (c:Cg) (S:Mst) (k li wd v:Int):Mst×MDid:=
 match portAt c S k with
 |none=>(S,did0)
 |some x=>if inB li c.li=true then (S.put k {x with s:=(storeF c.se c.wa x.s li wd v).1,up:=x.up++(storeF c.se c.wa x.s li wd v).2.2},⟨0,(storeF c.se c.wa x.s li wd v).2.1,msZ,0⟩) else (S,did0)
def reachM (c:Cg) (S:Mst) (k li:Int):Mst×MDid:=
 match portAt c S k with
 |none=>(S,did0)
 |some x=>if inB li c.li=true then (if ownsB x.s.1 li=true then (S,⟨0,true,msZ,0⟩) else (S.put k {x with s:=(reachF c.se c.wa x.s li).1,up:=x.up++(reachF c.se c.wa x.s li).2},did0)) else (S,did0)
def flushM (c:Cg) (S:Mst) (k li kd:Int):Mst×MDid:=
 match portAt c S k with
 |none=>(S,didE 1)
 |some x=>if inB li c.li=true∧(kd=4∨kd=5) then (S.put k {x with up:=x.up++[ms4 kd li false false]},did0) else (S,didE 1)
def upM (c:Cg) (S:Mst) (k:Int):Mst×MDid:=
 match portAt c S k with
 |none=>(S,didE 1)
 |some x=>match x.up with
  |[]=>(S,didE 14)
  |m::rest=>match S.en[m.li.toNat]? with
   |none=>(S,did0)
   |some e=>if (askE (hereP e (lnG S.X m.li.toNat) (lnG_len _ _)) k m).2=0 then (⟨sendP (S.ps.set k.toNat {x with up:=rest}) (askE (hereP e (lnG S.X m.li.toNat) (lnG_len _ _)) k m).1.2,S.en.set m.li.toNat (askE (hereP e (lnG S.X m.li.toNat) (lnG_len _ _)) k m).1.1,S.es,S.xs⟩,did0) else (S,didE (askE (hereP e (lnG S.X m.li.toNat) (lnG_len _ _)) k m).2)
def answerM (c:Cg) (S:Mst) (k:Int):Mst×MDid:=
 match portAt c S k with
 |none=>(S,didE 1)
 |some x=>match x.an with
  |[]=>(S,didE 14)
  |m::rest=>match S.en[m.li.toNat]? with
   |none=>(S,did0)
   |some e=>if (ansE e k m).2=0 then (⟨sendP (S.ps.set k.toNat {x with an:=rest}) (ansE e k m).1.2,S.en.set m.li.toNat (ansE e k m).1.1,S.es,S.xs⟩,did0) else (S.put k {x with an:=rest},didE (ansE e k m).2)
def hearM (c:Cg) (S:Mst) (k:Int):Mst×MDid:=
 match portAt c S k with
 |none=>(S,didE 1)
 |some x=>match x.dn with
  |[]=>(S,didE 14)
  |m::rest=>if (hearF c.se c.wa x.s m).2.2=0 then (S.put k {x with s:=(hearF c.se c.wa x.s m).1,an:=x.an++(hearF c.se c.wa x.s m).2.1,dn:=rest},⟨0,false,m,0⟩) else (S.put k {x with s:=(hearF c.se c.wa x.s m).1,dn:=rest},didE (hearF c.se c.wa x.s m).2.2)
def pushM (c:Cg) (S:Mst) (li:Int):Mst×MDid:=
 if inB li c.li=true then (match S.en[li.toNat]? with
  |none=>(S,did0)
  |some e=>if readyE e=true then (if saveV c S.es li.toNat e=0 then (⟨sendP S.ps (tellL (bitM e.by_) (ms4 14 li false false)),S.en.set li.toNat ((overE e).setDi false),saveEs c S.es li.toNat e,S.xs⟩,did0) else (⟨S.ps,S.en,saveEs c S.es li.toNat e,S.xs⟩,didE (saveV c S.es li.toNat e))) else (S,didE 16)) else (S,didE 1)
def drainM (c:Cg) (S:Mst) (li:Int):Mst×MDid:=
 if inB li c.li=true then (⟨S.ps,S.en,drainEs S.es li,drainXs S.xs S.es li⟩,didE (drainVal S.es li)) else (S,didE 1)
structure PtI (c:Cg) (n:Nat) (x:Pt):Prop where
 aj:AJ c.se c.wa c.li x.s
 us:x.s.2≤n
 up:x.up.length≤n
 an:x.an.length≤n
 dn:x.dn.length≤n
 fu:∀m∈x.up,mg m=true∧asksB m.kd=true∧m.li<c.li
 fa:∀m∈x.an,mg m=true∧answersB m.kd=true∧m.li<c.li
 fd:∀m∈x.dn,mg m=true∧tellsB m.kd=true∧m.li<c.li
theorem PtI.mono {c:Cg} {n n':Nat} {x:Pt} (h:PtI c n x) (hn:n≤n'):PtI c n' x:=
 ⟨h.aj,by have:=h.us;omega,Nat.le_trans h.up hn,Nat.le_trans h.an hn,Nat.le_trans h.dn hn,h.fu,h.fa,h.fd⟩
structure Inv (c:Cg) (n:Nat) (S:Mst) (cur:Nat→List Int):Prop where
 ok:c.Ok
 co:S.ps.length=c.co
 li:S.en.length=c.li
 xs:S.xs.length=c.li*8
 lie:Lie c.li S.es
 pt:∀j,j<c.co→PtI c n (atP S.ps j)
 ln:∀i e,S.en[i]? =some e→LinI c.co S.ps (cur i) (ln S.X i) i e
theorem mg_line {m:Ms} (h:mg m=true):0≤m.li∧m.li≤63∧lineB m.li=true:=by
 simp only [mg,Bool.and_eq_true] at h
 have h2:=h.1.1.1.2
 have:=h2
 simp [lineB] at this
 exact ⟨this.1,this.2,h2⟩
section
variable {c:Cg} {n:Nat} {S:Mst} {cur:Nat→List Int} (h:Inv c n S cur)
include h
theorem Inv.lX:S.X.length=c.li*8:=over_length _ _ h.xs h.lie
theorem Inv.ln8 {i:Nat} (hi:i<c.li):(Go.Proofs.YtcjoinhngdfdmaaGreatDoor.ln S.X i).length=8:=ln_length _ _ (fit_line h.lX hi)
theorem Inv.mono {n':Nat} (hn:n≤n'):Inv c n' S cur:=⟨h.ok,h.co,h.li,h.xs,h.lie,fun j hj=>(h.pt j hj).mono hn,h.ln⟩
theorem Inv.port {k:Int} {x:Pt} (hp:portAt c S k=some x):∃j:Nat,k=(j:Int)∧j<c.co∧S.ps[j]? =some x∧atP S.ps j=x∧PtI c n x∧inB k c.co=true:=by
 unfold portAt at hp
 split at hp
 ·rename_i hb
  have hb':=hb
  unfold inB at hb
  simp at hb
  obtain ⟨j,rfl⟩:∃j:Nat,k=(j:Int):=⟨k.toNat,by omega⟩
  rw [Int.toNat_natCast] at hp
  have:=atP_of hp
  exact ⟨j,rfl,by omega,hp,this,this▸h.pt j (by omega),hb'⟩
 ·cases hp
theorem Inv.portNone {k:Int} (hp:portAt c S k=none):inB k c.co=false:=by
 unfold portAt at hp
 split at hp
 ·rename_i hb
  unfold inB at hb
  simp at hb
  rw [List.getElem?_eq_none_iff,h.co] at hp
  omega
 ·rename_i hb;simpa using hb
theorem Inv.entry {i:Nat} (hi:i<c.li):∃e,S.en[i]? =some e∧LinI c.co S.ps (cur i) (Go.Proofs.YtcjoinhngdfdmaaGreatDoor.ln S.X i) i e:=
 ⟨_,List.getElem?_eq_getElem (by rw [h.li];exact hi),h.ln i _ (List.getElem?_eq_getElem (by rw [h.li];exact hi))⟩
theorem Inv.ag {j:Nat} {x:Pt} (hj:j<c.co) (hx:S.ps[j]? =some x) {s':Sta} {ms:List Ms} (ha:Asks c.li x.s s' ms) (haj:AJ c.se c.wa c.li s') (hu:s'.2≤x.s.2+1):Inv c (n+1) (S.put j {x with s:=s',up:=x.up++ms}) cur:=by
 have hk:=(List.getElem?_eq_some_iff.1 hx).1
 have e0:(S.put (j:Int) {x with s:=s',up:=x.up++ms}).ps=S.ps.set j {x with s:=s',up:=x.up++ms}:=by unfold Mst.put;rw [Int.toNat_natCast]
 have hpx:=atP_of hx▸h.pt j hj
 have hlen:ms.length≤1∧∀m∈ms,mg m=true∧asksB m.kd=true∧m.li<c.li:=by
  rcases ha with ⟨rfl,_⟩|⟨li,h0,hn,ha,_⟩
  ·exact ⟨by simp,fun m hm=>by cases hm⟩
  ·have:=h.ok.li64
   obtain ⟨m,rfl,h1,h2,h3,h4⟩:=ha.msg (by unfold lineB;simp;omega)
   exact ⟨by simp,fun a hm=>by rw [List.mem_singleton] at hm;subst hm;exact ⟨h4,h3,by omega⟩⟩
 refine ⟨h.ok,?_,h.li,h.xs,h.lie,fun p hp=>?_,fun i e he=>?_⟩
 ·rw [e0,List.length_set];exact h.co
 ·rw [e0,atP_set hk]
  split
  ·refine ⟨haj,?_,?_,Nat.le_succ_of_le hpx.an,Nat.le_succ_of_le hpx.dn,?_,hpx.fa,hpx.fd⟩
   ·have:=hpx.us
    show s'.2≤((n+1:Nat):Int)
    omega
   ·show (x.up++ms).length≤n+1
    rw [List.length_append]
    have:=hpx.up
    omega
   ·intro m hm
    rcases List.mem_append.1 hm with h1|h1
    ·exact hpx.fu m h1
    ·exact hlen.2 m h1
  ·exact (h.pt p hp).mono (Nat.le_succ n)
 ·rw [e0]
  exact (h.ln i e he).ag h.ok.li64 hx ha
theorem Inv.write {j:Nat} {x:Pt} (hj:j<c.co) (hx:S.ps[j]? =some x) {s':Sta} {li:Nat} (l':List Int) (hs:(vw x.s li).1=2∨(vw x.s li).1=3) (hv:vw s' li=(3,l')) (ho:∀li',li'≠(li:Int)→vw s' li'=vw x.s li') (haj:AJ c.se c.wa c.li s') (hu:s'.2≤x.s.2+1):
 Inv c (n+1) (S.put j {x with s:=s'}) (fun i=>if i=li then l' else cur i)∧(vw x.s li).2=cur li:=by
 have hk:=(List.getElem?_eq_some_iff.1 hx).1
 have e0:(S.put (j:Int) {x with s:=s'}).ps=S.ps.set j {x with s:=s'}:=by unfold Mst.put;rw [Int.toNat_natCast]
 have hpx:=atP_of hx▸h.pt j hj
 refine ⟨⟨h.ok,?_,h.li,h.xs,h.lie,fun p hp=>?_,fun i e he=>?_⟩,?_⟩
 ·rw [e0,List.length_set];exact h.co
 ·rw [e0,atP_set hk]
  split
  ·refine ⟨haj,?_,Nat.le_succ_of_le hpx.up,Nat.le_succ_of_le hpx.an,Nat.le_succ_of_le hpx.dn,hpx.fu,hpx.fa,hpx.fd⟩
   have:=hpx.us
   show s'.2≤((n+1:Nat):Int)
   omega
  ·exact (h.pt p hp).mono (Nat.le_succ n)
 ·rw [e0]
  have hl:=h.ln i e he
  by_cases hi:i=li
  ·subst hi
   rw [if_pos rfl]
   exact (hl.write hj hx l' hs hv).1
  ·rw [if_neg hi]
   exact hl.writeOff hx (ho i (by omega))
 ·have hli:li<c.li:=by
   have:=(hpx.aj.line (li:=(li:Int)) (by omega)).2.1
   omega
  obtain ⟨e,he,hl⟩:=h.entry hli
  exact (hl.write hj hx l' hs hv).2
theorem Inv.flush {j:Nat} {x:Pt} (hj:j<c.co) (hx:S.ps[j]? =some x) {li:Int} (hl:inB li c.li=true) {kd:Int} (hkd:kd=4∨kd=5):Inv c (n+1) (S.put j {x with up:=x.up++[ms4 kd li false false]}) cur∧mg (ms4 kd li false false)=true:=by
 have hk:=(List.getElem?_eq_some_iff.1 hx).1
 have e0:(S.put (j:Int) {x with up:=x.up++[ms4 kd li false false]}).ps=S.ps.set j {x with up:=x.up++[ms4 kd li false false]}:=by unfold Mst.put;rw [Int.toNat_natCast]
 have hpx:=atP_of hx▸h.pt j hj
 have h64:=h.ok.li64
 unfold inB at hl
 simp at hl
 have hlB:lineB li=true:=by unfold lineB;simp;omega
 have hmg:mg (ms4 kd li false false)=true:=by rcases hkd with rfl|rfl<;>simp [mg,ms4,kindB,hlB]
 refine ⟨⟨h.ok,?_,h.li,h.xs,h.lie,fun p hp=>?_,fun i e he=>?_⟩,hmg⟩
 ·rw [e0,List.length_set];exact h.co
 ·rw [e0,atP_set hk]
  split
  ·refine ⟨hpx.aj,?_,?_,Nat.le_succ_of_le hpx.an,Nat.le_succ_of_le hpx.dn,?_,hpx.fa,hpx.fd⟩
   ·have:=hpx.us
    show x.s.2≤((n+1:Nat):Int)
    omega
   ·show (x.up++[ms4 kd li false false]).length≤n+1
    rw [List.length_append]
    have:=hpx.up
    simp;omega
   ·intro m hm
    rcases List.mem_append.1 hm with h1|h1
    ·exact hpx.fu m h1
    ·rw [List.mem_singleton] at h1
     subst h1
     exact ⟨hmg,by rcases hkd with rfl|rfl<;>rfl,hl.2⟩
  ·exact (h.pt p hp).mono (Nat.le_succ n)
 ·rw [e0]
  refine (h.ln i e he).same fun p hp=>?_
  rw [atP_set hk]
  split
  ·rename_i hpj
   subst hpj
   rw [atP_of hx]
   refine ⟨rfl,rfl,?_,rfl,rfl⟩
   unfold upL
   rw [List.filter_append]
   have:[ms4 kd li false false].filter (fun m=>m.li==(i:Int)&&decide (m.kd≤3))=[]:=by rcases hkd with rfl|rfl<;>simp [ms4]
   rw [this,List.append_nil]
  ·exact ⟨rfl,rfl,rfl,rfl,rfl⟩
omit h in
theorem PtI.sent {c:Cg} {n:Nat} {x:Pt} (h:PtI c n x) {a:Ms} (ha:mg a=true∧tellsB a.kd=true∧a.li<c.li):PtI c (n+1) {x with dn:=x.dn++[a]}:=by
 refine ⟨h.aj,?_,Nat.le_succ_of_le h.up,Nat.le_succ_of_le h.an,?_,h.fu,h.fa,?_⟩
 ·have:=h.us
  show x.s.2≤((n+1:Nat):Int)
  omega
 ·show (x.dn++[a]).length≤n+1
  rw [List.length_append]
  have:=h.dn
  simp;omega
 ·intro m hm
  rcases List.mem_append.1 hm with h1|h1
  ·exact h.fd m h1
  ·rw [List.mem_singleton] at h1;subst h1;exact ha
end
theorem sent_ports {c:Cg} {n:Nat} {ps:List Pt} (hl:ps.length=c.co) (hp:∀j,j<c.co→PtI c n (atP ps j)) {o:Mk} {a:Ms} (ho:∀j:Nat,j<8→hasM o j=true→j<c.co) (ha:mg a=true∧tellsB a.kd=true∧a.li<c.li):
 (sendP ps (tellL o a)).length=c.co∧∀j,j<c.co→PtI c (n+1) (atP (sendP ps (tellL o a)) j):=by
 obtain ⟨h1,h2⟩:=sendP_tell o a ps (by rw [hl];exact ho)
 refine ⟨h1.trans hl,fun j hj=>?_⟩
 rw [h2 j (by omega)]
 split
 ·exact (hp j hj).sent ha
 ·exact (hp j hj).mono (Nat.le_succ n)
section
variable {c:Cg} {n:Nat} {S:Mst} {cur:Nat→List Int} (h:Inv c n S cur)
include h
theorem Inv.up {j:Nat} {x:Pt} (hj:j<c.co) (hx:S.ps[j]? =some x) {m:Ms} {rest:List Ms} (hu:x.up=m::rest):∃(i:Nat) (e:En),m.li=(i:Int)∧i<c.li∧S.en[i]? =some e∧
 ((e.bu≠0∧askE (hereP e (lnG S.X i) (lnG_len _ _)) j m=((enZ,[]),15))∨
  (e.bu=0∧∃o a e',askE (hereP e (lnG S.X i) (lnG_len _ _)) j m=((e',tellL o a),0)∧TellOk m.li a∧(∀j:Nat,j<8→hasM o j=true→j<c.co)∧Inv c (n+1) ⟨sendP (S.ps.set j {x with up:=rest}) (tellL o a),S.en.set i e',S.es,S.xs⟩ cur)):=by
 have hk:=(List.getElem?_eq_some_iff.1 hx).1
 have hpx:=atP_of hx▸h.pt j hj
 obtain ⟨m1,m2,m3⟩:=hpx.fu m (by rw [hu];simp)
 obtain ⟨l1,l2,l3⟩:=mg_line m1
 obtain ⟨i,hi⟩:∃i:Nat,m.li=(i:Int):=⟨m.li.toNat,by omega⟩
 have hic:i<c.li:=by omega
 obtain ⟨e,he,hl⟩:=h.entry hic
 refine ⟨i,e,hi,hic,he,?_⟩
 have h8:=h.ln8 hic
 have hG:=lnG_eq h8
 by_cases hb:e.bu=0
 ·obtain ⟨o,a,e',q1,q2,q3,q4⟩:=LinI.up (X:=lnG S.X i) (by rw [hG];exact hl) h.ok.co8 h.co (lnG_len _ _) hb hx hu m2 m1 hi
  refine .inr ⟨hb,o,a,e',q1,q2,q3,?_⟩
  have hta:mg a=true∧tellsB a.kd=true∧a.li<c.li:=⟨q2.1,q2.2.1,by rw [q2.2.2.1];exact m3⟩
  have hp1:∀p,p<c.co→PtI c n (atP (S.ps.set j {x with up:=rest}) p):=by
   intro p hp
   rw [atP_set hk]
   split
   ·refine ⟨hpx.aj,hpx.us,?_,hpx.an,hpx.dn,fun a ha=>hpx.fu a (by rw [hu];simp [show a∈rest from ha]),hpx.fa,hpx.fd⟩
    have:=hpx.up
    rw [hu] at this
    simp at this
    show rest.length≤n
    omega
   ·exact h.pt p hp
  obtain ⟨r1,r2⟩:=sent_ports (by rw [List.length_set];exact h.co) hp1 q3 hta
  refine ⟨h.ok,r1,by rw [List.length_set];exact h.li,h.xs,h.lie,r2,fun p ep hep=>?_⟩
  rw [List.getElem?_set] at hep
  split at hep
  ·rename_i hip
   subst hip
   split at hep
   ·injection hep with hep
    subst hep
    rw [hG] at q4
    exact q4
   ·cases hep
  ·rename_i hip
   exact LinI.upOff (h.ln p ep hep) h.co hx hu (by omega) q3 q2
 ·refine .inl ⟨hb,?_⟩
  have hh:e.he=true:=by
   cases hh:e.he
   ·have he':e=enE:=by
     have:=hl.good
     unfold goodE at this
     rw [if_neg (by simp [hh])] at this
     simpa using this
    rw [he'] at hb;exact absurd rfl hb
   ·rfl
  unfold hereP
  rw [if_pos hh]
  unfold askE
  have harg:askArg e j m=true:=by simp [askArg,hl.good,isC_cast (show j<8 by have:=h.ok.co8;omega),m1,m2]
  rw [if_pos harg,if_pos hb]
theorem Inv.answer {j:Nat} {x:Pt} (hj:j<c.co) (hx:S.ps[j]? =some x) {m:Ms} {rest:List Ms} (hu:x.an=m::rest):∃(i:Nat) (e:En),m.li=(i:Int)∧i<c.li∧S.en[i]? =some e∧
 ∃o a e',ansE e j m=((e',tellL o a),0)∧TellOk m.li a∧(∀j:Nat,j<8→hasM o j=true→j<c.co)∧Inv c (n+1) ⟨sendP (S.ps.set j {x with an:=rest}) (tellL o a),S.en.set i e',S.es,S.xs⟩ cur:=by
 have hk:=(List.getElem?_eq_some_iff.1 hx).1
 have hpx:=atP_of hx▸h.pt j hj
 obtain ⟨m1,m2,m3⟩:=hpx.fa m (by rw [hu];simp)
 obtain ⟨l1,l2,l3⟩:=mg_line m1
 obtain ⟨i,hi⟩:∃i:Nat,m.li=(i:Int):=⟨m.li.toNat,by omega⟩
 have hic:i<c.li:=by omega
 obtain ⟨e,he,hl⟩:=h.entry hic
 refine ⟨i,e,hi,hic,he,?_⟩
 obtain ⟨o,a,e',q1,q2,q3,q4⟩:=LinI.answer hl h.ok.co8 h.co hx hu m2 m1 hi
 refine ⟨o,a,e',q1,q2,q3,?_⟩
 have hta:mg a=true∧tellsB a.kd=true∧a.li<c.li:=⟨q2.1,q2.2.1,by rw [q2.2.2.1];exact m3⟩
 have hp1:∀p,p<c.co→PtI c n (atP (S.ps.set j {x with an:=rest}) p):=by
  intro p hp
  rw [atP_set hk]
  split
  ·refine ⟨hpx.aj,hpx.us,hpx.up,?_,hpx.dn,hpx.fu,fun a ha=>hpx.fa a (by rw [hu];simp [show a∈rest from ha]),hpx.fd⟩
   have:=hpx.an
   rw [hu] at this
   simp at this
   show rest.length≤n
   omega
  ·exact h.pt p hp
 obtain ⟨r1,r2⟩:=sent_ports (by rw [List.length_set];exact h.co) hp1 q3 hta
 refine ⟨h.ok,r1,by rw [List.length_set];exact h.li,h.xs,h.lie,r2,fun p ep hep=>?_⟩
 rw [List.getElem?_set] at hep
 split at hep
 ·rename_i hip
  subst hip
  split at hep
  ·injection hep with hep
   subst hep
   exact q4
  ·cases hep
 ·rename_i hip
  exact LinI.answerOff (h.ln p ep hep) h.co hx hu (by omega) q3 q2
theorem Inv.hear {j:Nat} {x:Pt} (hj:j<c.co) (hx:S.ps[j]? =some x) {m:Ms} {rest:List Ms} (hd:x.dn=m::rest):tb m.kd (vw x.s m.li).1≠0∧(hearF c.se c.wa x.s m).2.2=0∧(hearF c.se c.wa x.s m).2.1.length≤1∧(∀a∈(hearF c.se c.wa x.s m).2.1,mg a=true)∧
 Inv c (n+1) (S.put j {x with s:=(hearF c.se c.wa x.s m).1,an:=x.an++(hearF c.se c.wa x.s m).2.1,dn:=rest}) cur:=by
 have hk:=(List.getElem?_eq_some_iff.1 hx).1
 have hpx:=atP_of hx▸h.pt j hj
 obtain ⟨m1,m2,m3⟩:=hpx.fd m (by rw [hd];simp)
 obtain ⟨l1,l2,l3⟩:=mg_line m1
 obtain ⟨i,hi⟩:∃i:Nat,m.li=(i:Int):=⟨m.li.toNat,by omega⟩
 have hic:i<c.li:=by omega
 obtain ⟨e,he,hl⟩:=h.entry hic
 have ht:=hl.fits hj hx hpx.aj hd hi
 have hg:(mg m&&tellsB m.kd)=true:=by rw [m1,m2];rfl
 obtain ⟨a1,a2,_⟩:=hpx.aj.hearF hg m3 ht
 have hav:(answersL m.kd (findVal x.s.1 m.li) (tb m.kd (vw x.s m.li).1)).length≤1∧∀a∈answersL m.kd (findVal x.s.1 m.li) (tb m.kd (vw x.s m.li).1),mg a=true∧answersB a.kd=true∧a.li<c.li:=by
  by_cases h14:m.kd=14
  ·rw [h14];exact ⟨Nat.zero_le _,fun a ha=>by cases ha⟩
  ·have hl:=(hpx.aj.line (tb_line ht h14)).2.2.1
   have hto:∀kd ke,((kd=6∧ke=false)∨kd=7)→mg (toldM kd (findVal x.s.1 m.li) ke)=true∧answersB (toldM kd (findVal x.s.1 m.li) ke).kd=true∧(toldM kd (findVal x.s.1 m.li) ke).li<c.li:=by
    intro kd ke hk
    unfold toldM
    split
    ·refine ⟨?_,by rcases hk with ⟨rfl,_⟩|rfl<;>rfl,by show (findVal x.s.1 m.li).li<c.li;omega⟩
     rcases hk with ⟨rfl,rfl⟩|rfl<;>simp [mg,kindB,mayD,mayK,hl,l3]
    ·refine ⟨?_,by rcases hk with ⟨rfl,_⟩|rfl<;>rfl,by show (findVal x.s.1 m.li).li<c.li;omega⟩
     rcases hk with ⟨rfl,rfl⟩|rfl<;>simp [mg,ms4,kindB,mayD,mayK,hl,l3]
   unfold answersL
   split
   ·exact ⟨by simp,fun a ha=>by rw [List.mem_singleton] at ha;subst ha;exact hto 6 false (.inl ⟨rfl,rfl⟩)⟩
   ·split
    ·exact ⟨by simp,fun a ha=>by rw [List.mem_singleton] at ha;subst ha;exact hto 7 _ (.inr rfl)⟩
    ·exact ⟨by simp,fun a ha=>by cases ha⟩
 rw [show (hearF c.se c.wa x.s m).2.1=answersL m.kd (findVal x.s.1 m.li) (tb m.kd (vw x.s m.li).1) by rw [a2]]
 refine ⟨ht,by rw [a2],hav.1,fun a ha=>(hav.2 a ha).1,?_⟩
 generalize hAV:answersL m.kd (findVal x.s.1 m.li) (tb m.kd (vw x.s m.li).1)=av at hav
 have e0:(S.put (j:Int) {x with s:=(hearF c.se c.wa x.s m).1,an:=x.an++av,dn:=rest}).ps=S.ps.set j {x with s:=(hearF c.se c.wa x.s m).1,an:=x.an++av,dn:=rest}:=by unfold Mst.put;rw [Int.toNat_natCast]
 refine ⟨h.ok,?_,h.li,h.xs,h.lie,fun p hp=>?_,fun p ep hep=>?_⟩
 ·rw [e0,List.length_set];exact h.co
 ·rw [e0,atP_set hk]
  split
  ·refine ⟨a1,?_,Nat.le_succ_of_le hpx.up,?_,?_,hpx.fu,?_,fun a ha=>hpx.fd a (by rw [hd];simp [show a∈rest from ha])⟩
   ·have:=(hearF_u (S:=c.se) (N:=c.wa) (s:=x.s) (m:=m)).2
    have:=hpx.us
    show (hearF c.se c.wa x.s m).1.2≤((n+1:Nat):Int)
    omega
   ·show (x.an++av).length≤n+1
    rw [List.length_append]
    have:=hpx.an
    omega
   ·have:=hpx.dn
    rw [hd] at this
    simp at this
    show rest.length≤n+1
    omega
   ·intro a ha
    rcases List.mem_append.1 ha with h1|h1
    ·exact hpx.fa a h1
    ·exact hav.2 a h1
  ·exact (h.pt p hp).mono (Nat.le_succ n)
 ·rw [e0,←hAV]
  exact (h.ln p ep hep).hear hx hpx.aj hd hg m3 ht
theorem Inv.saved {i:Nat} (hi:i<c.li) (e:En):(saveV c S.es i e=0∨saveV c S.es i e=13)∧(saveV c S.es i e≠0→saveEs c S.es i e=S.es)∧(saveV c S.es i e=0→Lie c.li (saveEs c S.es i e)∧over S.xs (saveEs c S.es i e)=if e.di=true then lnPut S.X i e.l else S.X):=by
 have h0:(0:Int)≤(i:Int)∧(i:Int)<(c.li:Int):=by omega
 unfold saveV saveEs wpushVal pushEs
 rw [if_pos h0,if_pos h0]
 cases hd:e.di
 ·simp only [Bool.false_eq_true,if_false]
  exact ⟨.inl trivial,fun h=>absurd rfl h,fun _=>⟨h.lie,rfl⟩⟩
 ·simp only [if_true]
  by_cases hr:c.qu≤S.es.length
  ·rw [if_pos hr,if_pos hr]
   exact ⟨.inr rfl,fun _=>rfl,fun h=>absurd h (by decide)⟩
  ·rw [if_neg hr,if_neg hr]
   refine ⟨.inl rfl,fun h=>absurd rfl h,fun _=>⟨h.lie.snoc (by rw [Int.toNat_natCast];exact hi),?_⟩⟩
   rw [over_snoc,Int.toNat_natCast];rfl
theorem Inv.push {i:Nat} {e:En} (hi:i<c.li) (he:S.en[i]? =some e) (hr:readyE e=true):isC e.by_=true∧e.by_<c.co∧mg (ms4 14 i false false)=true∧(saveV c S.es i e=0→Inv c (n+1) ⟨sendP S.ps (tellL (bitM e.by_) (ms4 14 i false false)),S.en.set i ((overE e).setDi false),saveEs c S.es i e,S.xs⟩ cur):=by
 have hl:=h.ln i e he
 have h64:=h.ok.li64
 have fit:=push_fit hr
 have hh:e.he=true:=fit.1
 have hlB:lineB (i:Int)=true:=by unfold lineB;simp;omega
 have hmg:mg (ms4 14 (i:Int) false false)=true:=by simp [mg,ms4,kindB,hlB]
 have hbu:e.bu=4∨e.bu=5:=by simp only [readyE,Bool.and_eq_true,Bool.or_eq_true,beq_iff_eq] at hr;exact hr.1.2
 have hC:isC e.by_=true:=by
  rcases ((good_here hh).1 hl.good).2 with ⟨h1,_⟩|⟨_,h1,_⟩|⟨_,h1⟩
  ·omega
  ·exact h1.1
  ·exact h1.1
 refine ⟨hC,hl.lo.2.1,hmg,fun hv=>?_⟩
 obtain ⟨_,_,s3⟩:=h.saved hi e
 obtain ⟨s4,s5⟩:=s3 hv
 obtain ⟨p,hp,hpe⟩:=isC_nat hC
 have hob:∀j:Nat,j<8→hasM (bitM e.by_) j=true→j<c.co:=by
  intro j _ hj
  rw [has_bitN _ hC,decide_eq_true_eq] at hj
  have:=hl.lo.2.1
  omega
 obtain ⟨r1,r2⟩:=sent_ports h.co h.pt hob (a:=ms4 14 (i:Int) false false) ⟨hmg,rfl,by show (i:Int)<c.li;omega⟩
 refine ⟨h.ok,r1,by rw [List.length_set];exact h.li,h.xs,s4,r2,fun q eq heq=>?_⟩
 have eX:(Mst.mk (sendP S.ps (tellL (bitM e.by_) (ms4 14 (i:Int) false false))) (S.en.set i ((overE e).setDi false)) (saveEs c S.es i e) S.xs).X=if e.di=true then lnPut S.X i e.l else S.X:=s5
 rw [eX]
 rw [List.getElem?_set] at heq
 split at heq
 ·rename_i hiq
  subst hiq
  split at heq
  ·injection heq with heq
   subst heq
   refine LinI.sent (hl.push hr ?_) h.co hob (.inr rfl)
   split
   ·exact ln_put_same _ _ _ (fit_line h.lX hi) e.h
   ·rename_i hd
    exact hl.mem1 hh (by simpa using hd)
  ·cases heq
 ·rename_i hiq
  refine LinI.sent ((h.ln q eq heq).mem ?_) h.co hob (.inr rfl)
  split
  ·exact ln_put_other _ _ _ _ (fit_line h.lX hi) e.h hiq
  ·rfl
theorem Inv.drain (li:Int):Inv c (n+1) ⟨S.ps,S.en,drainEs S.es li,drainXs S.xs S.es li⟩ cur:=by
 have hx:Lie c.li (drainEs S.es li)∧(drainXs S.xs S.es li).length=c.li*8∧over (drainXs S.xs S.es li) (drainEs S.es li)=S.X:=by
  by_cases hf:firstAt S.es li<S.es.length
  ·obtain ⟨e,he,hp,hb⟩:=first_some hf
   refine ⟨h.lie.sub (fun x hx=>List.mem_of_mem_eraseIdx hx),?_,?_⟩
   ·unfold drainXs
    rw [he]
    show (lnPut S.xs e.pos e.l).length=_
    rw [lnPut_length _ _ _ (fit_line h.xs (h.lie.get he)) e.h]
    exact h.xs
   ·unfold drainXs drainEs
    rw [he]
    exact over_drain S.xs h.xs h.lie he (fun x hx=>by have:=hb x hx;omega)
  ·unfold drainEs drainXs
   rw [List.eraseIdx_of_length_le (by omega),List.getElem?_eq_none (by omega)]
   exact ⟨h.lie,h.xs,rfl⟩
 refine ⟨h.ok,h.co,h.li,hx.2.1,hx.1,fun j hj=>(h.pt j hj).mono (Nat.le_succ n),fun q eq heq=>?_⟩
 have eX:(Mst.mk S.ps S.en (drainEs S.es li) (drainXs S.xs S.es li)).X=S.X:=hx.2.2
 rw [eX]
 exact h.ln q eq heq
end
theorem Inv.fresh (c:Cg) (hc:c.Ok) (xs:List Int) (hx:xs.length=c.li*8):Inv c 0 ⟨List.replicate c.co (pt0 c),List.replicate c.li enE,[],xs⟩ (fun i=>Go.Proofs.YtcjoinhngdfdmaaGreatDoor.ln xs i):=by
 have hgood:Good c.se c.wa (List.replicate (c.se*c.wa) sltZ):=by
  have:=hc.new
  unfold goodNew at this
  exact Good.new (by omega) (by omega) (by omega)
 have haj:AJ c.se c.wa c.li (st0 c):=⟨OnceAt.new hgood,Sane.new _,Int.le_refl 0,fun x hx h0=>by rw [List.eq_of_mem_replicate hx] at h0;exact absurd rfl h0⟩
 have hat:∀j,j<c.co→atP (List.replicate c.co (pt0 c)) j=pt0 c:=fun j hj=>atP_of (by rw [List.getElem?_replicate,if_pos hj])
 have hfind:∀li,findVal (st0 c).1 li=sltZ:=fun li=>find_none (fun x hx=>by rw [List.eq_of_mem_replicate hx];rfl)
 refine ⟨hc,by simp,by simp,hx,Lie.nil _,fun j hj=>?_,fun i e he=>?_⟩
 ·rw [hat j hj]
  exact ⟨haj,Int.le_refl 0,Nat.le_refl 0,Nat.le_refl 0,Nat.le_refl 0,fun m hm=>(by cases hm),fun m hm=>(by cases hm),fun m hm=>(by cases hm)⟩
 ·rw [List.getElem?_replicate] at he
  split at he
  ·injection he with he
   subst he
   refine ⟨rfl,⟨by show (-1:Int)<c.co;omega,by show (0:Int)<c.co;have:=hc.co1;omega,fun j _ h1=>?_,fun j _ h1=>?_⟩,fun j hj=>?_,fun h1=>absurd (show false=true from h1) (by decide),fun _=>rfl,fun h1=>absurd (show false=true from h1) (by decide),fun h1=>absurd (show (0:Int)=1 from h1) (by decide),fun h1=>absurd (show (0:Int)=2 from h1) (by decide)⟩
   ·have h2:hasM 0#8 (j:Int)=true:=h1
    rw [has_zero] at h2;cases h2
   ·have h2:hasM 0#8 (j:Int)=true:=h1
    rw [has_zero] at h2;cases h2
   ·simp only [hat j hj]
    have e1:vst (pt0 c) i=0:=by unfold vst vw;rw [show (pt0 c).s=st0 c from rfl,hfind];rfl
    rw [e1,bOf_0 (show enE.bu=0 from rfl)]
    show Rel _ _ _ (decide ((-1:Int)=(j:Int))) (hasM 0#8 j) (hasM 0#8 j) 0 0 _ [] [] []
    rw [decide_eq_false (by omega),has_zero]
    exact .base (.i _)
  ·cases he
end
section
theorem Asks.msgs {n:Nat} {s s':Sta} {ms:List Ms} (h:Asks n s s' ms) (hn:n≤64):ms.length≤1∧∀m∈ms,mg m=true:=by
 rcases h with ⟨rfl,_⟩|⟨li,h0,hl,ha,_⟩
 ·exact ⟨Nat.zero_le _,fun m hm=>by cases hm⟩
 ·obtain ⟨m,rfl,_,_,_,h4⟩:=ha.msg (by unfold lineB;simp;omega)
  exact ⟨Nat.le_refl 1,fun a hm=>by rw [List.mem_singleton] at hm;subst hm;exact h4⟩
theorem inB_iff {k:Int} {n:Nat}:inB k n=true↔0≤k∧k<n:=by unfold inB;simp
section
variable {c:Cg} {n:Nat} {S:Mst} {cur:Nat→List Int} (h:Inv c n S cur)
include h
theorem Inv.next:Inv c (n+1) S cur:=h.mono (Nat.le_succ n)
theorem Inv.loadM (k li wd:Int):Inv c (n+1) (loadM c S k li wd).1 cur:=by
 unfold Go.Proofs.YtcjoinhngdfdmaaGreatDoor.loadM
 cases hp:portAt c S k with
 |none=>exact h.next
 |some x=>
  obtain ⟨j,rfl,hj,hx,_,hP,_⟩:=h.port hp
  dsimp only
  split
  ·rename_i hl
   obtain ⟨a,b,_⟩:=hP.aj.loadF (inB_iff.1 hl).2 wd
   exact h.ag hj hx b a loadF_u.2
  ·exact h.next
theorem Inv.reachM (k li:Int):Inv c (n+1) (reachM c S k li).1 cur:=by
 unfold Go.Proofs.YtcjoinhngdfdmaaGreatDoor.reachM
 cases hp:portAt c S k with
 |none=>exact h.next
 |some x=>
  obtain ⟨j,rfl,hj,hx,_,hP,_⟩:=h.port hp
  dsimp only
  split
  ·rename_i hl
   split
   ·exact h.next
   ·obtain ⟨a,b⟩:=hP.aj.reachF (inB_iff.1 hl).2
    exact h.ag hj hx b a reachF_u.2
  ·exact h.next
theorem Inv.flushM (k li kd:Int):Inv c (n+1) (flushM c S k li kd).1 cur:=by
 unfold Go.Proofs.YtcjoinhngdfdmaaGreatDoor.flushM
 cases hp:portAt c S k with
 |none=>exact h.next
 |some x=>
  obtain ⟨j,rfl,hj,hx,_,hP,_⟩:=h.port hp
  dsimp only
  split
  ·rename_i hl
   exact (h.flush hj hx hl.1 hl.2).1
  ·exact h.next
theorem Inv.storeM (k li wd v:Int):Inv c (n+1) (storeM c S k li wd v).1 (if (storeM c S k li wd v).2.hit=true then fun i=>if (i:Int)=li then (cur i).set wd.toNat v else cur i else cur)∧((storeM c S k li wd v).2.hit=true→inB k c.co=true∧inB li c.li=true∧isWd wd=true):=by
 cases hp:portAt c S k with
 |none=>
  have e:Go.Proofs.YtcjoinhngdfdmaaGreatDoor.storeM c S k li wd v=(S,did0):=by unfold Go.Proofs.YtcjoinhngdfdmaaGreatDoor.storeM;rw [hp]
  rw [e]
  exact ⟨h.next,fun h=>by cases h⟩
 |some x=>
  obtain ⟨j,rfl,hj,hx,_,hP,hb⟩:=h.port hp
  by_cases hl:inB li c.li=true
  ·have e:Go.Proofs.YtcjoinhngdfdmaaGreatDoor.storeM c S j li wd v=(S.put j {x with s:=(storeF c.se c.wa x.s li wd v).1,up:=x.up++(storeF c.se c.wa x.s li wd v).2.2},⟨0,(storeF c.se c.wa x.s li wd v).2.1,msZ,0⟩):=by
    unfold Go.Proofs.YtcjoinhngdfdmaaGreatDoor.storeM;rw [hp];exact if_pos hl
   rw [e]
   dsimp only
   obtain ⟨l0,ln⟩:=inB_iff.1 hl
   obtain ⟨i,rfl⟩:∃i:Nat,li=(i:Int):=⟨li.toNat,by omega⟩
   obtain ⟨a,⟨b1,b2,_,b3,b4,b5,b6⟩|⟨b1,b2⟩⟩:=hP.aj.storeF ln wd v
   ·rw [b1,b4,List.append_nil,if_pos rfl]
    refine ⟨?_,fun _=>⟨hb,hl,b2⟩⟩
    obtain ⟨q1,q2⟩:=h.write hj hx ((vw x.s i).2.set wd.toNat v) b3 b5 b6 a storeF_u.2
    rw [q2] at q1
    have e:(fun p:Nat=>if (p:Int)=(i:Int) then (cur p).set wd.toNat v else cur p)=fun p=>if p=i then (cur i).set wd.toNat v else cur p:=by
     funext p
     by_cases hpi:p=i
     ·subst hpi;rw [if_pos rfl,if_pos rfl]
     ·rw [if_neg (by omega),if_neg hpi]
    rw [e]
    exact q1
   ·rw [b1]
    exact ⟨h.ag hj hx b2 a storeF_u.2,fun h=>by cases h⟩
  ·have e:Go.Proofs.YtcjoinhngdfdmaaGreatDoor.storeM c S j li wd v=(S,did0):=by unfold Go.Proofs.YtcjoinhngdfdmaaGreatDoor.storeM;rw [hp];exact if_neg hl
   rw [e]
   exact ⟨h.next,fun h=>by cases h⟩
theorem Inv.upM (k:Int):Inv c (n+1) (upM c S k).1 cur∧(inB k c.co=true→(upM c S k).2.e=0∨(upM c S k).2.e=14∨(upM c S k).2.e=15):=by
 unfold Go.Proofs.YtcjoinhngdfdmaaGreatDoor.upM
 cases hp:portAt c S k with
 |none=>exact ⟨h.next,fun hb=>absurd (hb.symm.trans (h.portNone hp)) (by decide)⟩
 |some x=>
  obtain ⟨j,rfl,hj,hx,_,hP,hb⟩:=h.port hp
  dsimp only
  cases hu:x.up with
  |nil=>exact ⟨h.next,fun _=>.inr (.inl rfl)⟩
  |cons m rest=>
   obtain ⟨i,e,hi,hic,he,hc⟩:=h.up hj hx hu
   have ei:i=m.li.toNat:=by omega
   subst ei
   dsimp only
   rw [he]
   dsimp only
   rcases hc with ⟨_,h2⟩|⟨_,o,a,e',h2,_,_,h3⟩
   ·rw [h2,if_neg (by decide)]
    exact ⟨h.next,fun _=>.inr (.inr rfl)⟩
   ·rw [h2,if_pos rfl]
    exact ⟨h3,fun _=>.inl rfl⟩
theorem Inv.answerM (k:Int):Inv c (n+1) (answerM c S k).1 cur∧(inB k c.co=true→(answerM c S k).2.e=0∨(answerM c S k).2.e=14):=by
 unfold Go.Proofs.YtcjoinhngdfdmaaGreatDoor.answerM
 cases hp:portAt c S k with
 |none=>exact ⟨h.next,fun hb=>absurd (hb.symm.trans (h.portNone hp)) (by decide)⟩
 |some x=>
  obtain ⟨j,rfl,hj,hx,_,hP,hb⟩:=h.port hp
  dsimp only
  cases hu:x.an with
  |nil=>exact ⟨h.next,fun _=>.inr rfl⟩
  |cons m rest=>
   obtain ⟨i,e,hi,hic,he,o,a,e',h2,_,_,h3⟩:=h.answer hj hx hu
   dsimp only
   rw [hi,Int.toNat_natCast,he]
   dsimp only
   rw [h2,if_pos rfl]
   exact ⟨h3,fun _=>.inl rfl⟩
end
theorem find_live (xs:List Slt) (li:Int):findVal xs li=((live xs).find? (fun x=>x.li==li)).getD sltZ:=by
 unfold live
 rw [List.find?_filter]
 have e:(fun a:Slt=>decide ((a.st !=0)=true∧(a.li==li)=true))=pLine li:=by
  funext a;unfold pLine;by_cases h1:a.st=0<;>by_cases h2:a.li=li<;>simp [h1,h2]
 rw [e]
 rcases find_mem xs li with ⟨_,h2,h3⟩|⟨h1,h3,h2⟩
 ·unfold findVal
  unfold dropVal at h3
  have hlt:=of_decide_eq_true h3
  have:=List.findIdx_getElem (w:=hlt)
  rw [List.getElem?_eq_getElem hlt]
  have h4:xs.find? (pLine li)=some xs[xs.findIdx (pLine li)]:=by
   rw [List.find?_eq_some_iff_getElem]
   refine ⟨this,xs.findIdx (pLine li),hlt,rfl,fun j hj=>?_⟩
   have:=List.not_of_lt_findIdx hj
   simpa using this
  rw [h4];rfl
 ·rw [h1]
  have:xs.find? (pLine li)=none:=by
   rw [List.find?_eq_none]
   intro x hx
   rw [h2 x hx];decide
  rw [this];rfl
theorem tb_ne (kd st:Int) (h14:kd≠14) (h:tb kd st≠0):(tb kd st=10∧st≠0)∨(tb kd st≠10∧tb kd st≠11∧tb kd st≠st):=by
 unfold tb at *
 repeat' split at h
 all_goals first |omega|simp_all
 all_goals omega
section
variable {c:Cg} {n:Nat} {S:Mst} {cur:Nat→List Int} (h:Inv c n S cur)
include h
theorem Inv.hearM (k:Int):Inv c (n+1) (hearM c S k).1 cur∧(inB k c.co=true→(hearM c S k).2.e=0∨(hearM c S k).2.e=14)∧
 (inB k c.co=true→(hearM c S k).2.e=0→(hearM c S k).2.m.kd≠14→live (atP (hearM c S k).1.ps k.toNat).s.1≠live (atP S.ps k.toNat).s.1):=by
 unfold Go.Proofs.YtcjoinhngdfdmaaGreatDoor.hearM
 cases hp:portAt c S k with
 |none=>exact ⟨h.next,fun hb=>absurd (hb.symm.trans (h.portNone hp)) (by decide),fun hb=>absurd (hb.symm.trans (h.portNone hp)) (by decide)⟩
 |some x=>
  obtain ⟨j,rfl,hj,hx,hat,hP,hb⟩:=h.port hp
  dsimp only
  cases hd:x.dn with
  |nil=>exact ⟨h.next,fun _=>.inr rfl,fun _ he=>absurd (show (14:Int)=0 from he) (by decide)⟩
  |cons m rest=>
   obtain ⟨ht,h2,_,_,h3⟩:=h.hear hj hx hd
   dsimp only
   rw [if_pos h2]
   refine ⟨h3,fun _=>.inl rfl,fun _ _ h14 hl=>?_⟩
   rw [Int.toNat_natCast] at hl
   have hk:=(List.getElem?_eq_some_iff.1 hx).1
   have e0:(S.put (j:Int) {x with s:=(hearF c.se c.wa x.s m).1,an:=x.an++(hearF c.se c.wa x.s m).2.1,dn:=rest}).ps=S.ps.set j {x with s:=(hearF c.se c.wa x.s m).1,an:=x.an++(hearF c.se c.wa x.s m).2.1,dn:=rest}:=by unfold Mst.put;rw [Int.toNat_natCast]
   dsimp only at hl h14
   rw [e0,atP_set hk,if_pos rfl,hat] at hl
   obtain ⟨m1,m2,m3⟩:=hP.fd m (by rw [hd];simp)
   have hg:(mg m&&tellsB m.kd)=true:=by rw [m1,m2];rfl
   obtain ⟨_,_,_,v10,_,vno⟩:=hP.aj.hearF hg m3 ht
   have hv:(vw (hearF c.se c.wa x.s m).1 m.li).1=(vw x.s m.li).1:=by
    unfold vw
    rw [find_live,find_live (x.s.1),hl]
   rcases tb_ne m.kd _ h14 ht with ⟨q1,q2⟩|⟨q1,q2,q3⟩
   ·rw [v10 q1] at hv;exact q2 hv.symm
   ·rw [vno q1 q2] at hv;exact q3 hv
theorem Inv.pushM (li:Int):Inv c (n+1) (pushM c S li).1 cur:=by
 unfold Go.Proofs.YtcjoinhngdfdmaaGreatDoor.pushM
 split
 ·rename_i hl
  obtain ⟨l0,ln⟩:=inB_iff.1 hl
  obtain ⟨i,rfl⟩:∃i:Nat,li=(i:Int):=⟨li.toNat,by omega⟩
  rw [Int.toNat_natCast]
  obtain ⟨e,he,_⟩:=h.entry (i:=i) (by omega)
  rw [he]
  dsimp only
  by_cases hr:readyE e=true
  ·rw [if_pos hr]
   by_cases hv:saveV c S.es i e=0
   ·rw [if_pos hv];exact (h.push (by omega) he hr).2.2.2 hv
   ·rw [if_neg hv]
    dsimp only
    rw [(h.saved (show i<c.li by omega) e).2.1 hv]
    exact h.next
  ·rw [if_neg hr];exact h.next
 ·exact h.next
theorem Inv.drainM (li:Int):Inv c (n+1) (drainM c S li).1 cur:=by
 unfold Go.Proofs.YtcjoinhngdfdmaaGreatDoor.drainM
 split
 ·exact h.drain li
 ·exact h.next
end
end
section
structure Se where
 kd:Int
 li:Int
 wo:Int
 va:Int
 sn:Bool
deriving DecidableEq
def Se.enc (e:Se):List Value:=[.int .i64 e.kd,.int .i64 e.li,.int .i64 e.wo,.int .u64 e.va,.bool e.sn]
theorem Se.len (e:Se):(Se.enc e).length=5:=rfl
theorem Se.one (e:Se):∀v∈Se.enc e,v.oneCell'=true:=by
 intro v hv
 simp only [Se.enc,List.mem_cons,List.not_mem_nil,or_false] at hv
 rcases hv with rfl|rfl|rfl|rfl|rfl<;>rfl
def sent (e:Se):Se:={e with sn:=true}
def seZ:Se:=⟨0,0,0,0,false⟩
def sec (e:Se):Array Value:=(Se.enc e).toArray
theorem sec_size (e:Se):(sec e).size=5:=by simp [sec,Se.enc]
theorem sec_one (e:Se):allOne (sec e):=allOne_list _ (List.all_eq_true.2 (Se.one e))
theorem sec_kd (e:Se):(sec e)[0]? =some (.int .i64 e.kd):=rfl
theorem sec_li (e:Se):(sec e)[1]? =some (.int .i64 e.li):=rfl
theorem sec_wo (e:Se):(sec e)[2]? =some (.int .i64 e.wo):=rfl
theorem sec_va (e:Se):(sec e)[3]? =some (.int .u64 e.va):=rfl
theorem sec_sn (e:Se):(sec e)[4]? =some (.bool e.sn):=rfl
theorem sec_lit (k l o v:Int) (s:Bool):(#[.int .i64 k,.int .i64 l,.int .i64 o,.int .u64 v,.bool s]:Array Value)=sec ⟨k,l,o,v,s⟩:=rfl
theorem sec_z:sec ⟨0,0,0,0,false⟩=sec seZ:=rfl
theorem sec_ne (e:Se):(sec e=#[])=False:=eq_false (fun h=>by have:=congrArg Array.size h;rw [sec_size] at this;cases this)
theorem sec_set0 (e:Se) (v:Int):(sec e).setIfInBounds 0 (.int .i64 v)=sec ⟨v,e.li,e.wo,e.va,e.sn⟩:=by simp [sec,Se.enc]
theorem sec_set1 (e:Se) (v:Int):(sec e).setIfInBounds 1 (.int .i64 v)=sec ⟨e.kd,v,e.wo,e.va,e.sn⟩:=by simp [sec,Se.enc]
theorem sec_set2 (e:Se) (v:Int):(sec e).setIfInBounds 2 (.int .i64 v)=sec ⟨e.kd,e.li,v,e.va,e.sn⟩:=by simp [sec,Se.enc]
theorem sec_set3 (e:Se) (v:Int):(sec e).setIfInBounds 3 (.int .u64 v)=sec ⟨e.kd,e.li,e.wo,v,e.sn⟩:=by simp [sec,Se.enc]
theorem seZ_kd:seZ.kd=0:=rfl
theorem seZ_li:seZ.li=0:=rfl
theorem seZ_wo:seZ.wo=0:=rfl
theorem seZ_va:seZ.va=0:=rfl
theorem seZ_sn:seZ.sn=false:=rfl
theorem sec_enc (e:Se):sec e=(Se.enc e).toArray:=rfl
def sezV:Value:=.agg (sec seZ)
theorem sezV_size:sezV.cells.size=5:=rfl
theorem getElem?_splice5 {α:Type} (xs l:List α) (o j:Nat) (h:o+l.length≤xs.length):(splice xs o l)[j]? =if j<o then xs[j]? else if j<o+l.length then l[j-o]? else xs[j]?:=by
 unfold splice
 have e1:(xs.take o).length=o:=by simp;omega
 split
 ·rename_i h1
  rw [List.append_assoc,List.getElem?_append_left (by omega),List.getElem?_take_of_lt h1]
 ·split
  ·rename_i h1 h2
   rw [List.append_assoc,List.getElem?_append_right (by omega),e1,List.getElem?_append_left (by omega)]
  ·rename_i h1 h2
   rw [List.getElem?_append_right (by simp;omega),List.getElem?_drop]
   congr 1
   simp;omega
structure Ring where
 l:List Se
 h:l.length=16
def Ring.get (r:Ring) (p:Nat):Se:=r.l.getD p seZ
def Ring.put (r:Ring) (p:Nat) (e:Se):Ring:=⟨r.l.set p e,by rw [List.length_set];exact r.h⟩
def ringZ:Ring:=⟨List.replicate 16 seZ,rfl⟩
theorem Ring.at (r:Ring) {p:Nat} (hp:p<16):r.l[p]? =some (r.get p):=by
 have:=r.h
 unfold Ring.get
 rw [List.getElem?_eq_getElem (by omega)];simp [this,hp]
theorem Ring.put_same (r:Ring) {p:Nat} (hp:p<16) (e:Se):(r.put p e).get p=e:=by
 have:=r.h
 unfold Ring.get Ring.put
 simp [List.getD_eq_getElem?_getD,this,hp]
theorem Ring.put_other (r:Ring) {p q:Nat} (h:p≠q) (e:Se):(r.put p e).get q=r.get q:=by
 unfold Ring.get Ring.put
 simp [List.getD_eq_getElem?_getD,h]
def pl (f n:Nat):Nat:=(f+n) % 16
theorem pl_lt (f n:Nat):pl f n<16:=Nat.mod_lt _ (by omega)
theorem pl_ne {f n m:Nat} (h:n<m) (hm:m<16+n):pl f n≠pl f m:=by unfold pl;omega
theorem pl_next (f n:Nat):pl (pl f 1) n=pl f (n+1):=by unfold pl;omega
theorem fit_pl (f n:Nat):Fit (1+pl f n*5) 5 83=True:=by have:=pl_lt f n;exact eq_true (show _≤_ by omega)
def bfc (room:Int) (r:Ring) (f c:Nat):Array Value:=(.int .i64 room::(cat Se.enc r.l++[.int .i64 f,.int .i64 c])).toArray
section
variable (room:Int) (r:Ring) (f c:Nat)
theorem ring_cells:(cat Se.enc r.l).length=80:=by rw [cat_length Se.len,r.h]
theorem bfc_size:(bfc room r f c).size=83:=by simp [bfc,ring_cells]
theorem bfc_room:(bfc room r f c)[0]? =some (.int .i64 room):=by simp [bfc]
theorem bfc_first:(bfc room r f c)[81]? =some (.int .i64 f):=by
 unfold bfc
 rw [List.getElem?_toArray,List.getElem?_cons_succ,List.getElem?_append_right (by rw [ring_cells];omega),ring_cells];rfl
theorem bfc_count:(bfc room r f c)[82]? =some (.int .i64 c):=by
 unfold bfc
 rw [List.getElem?_toArray,List.getElem?_cons_succ,List.getElem?_append_right (by rw [ring_cells];omega),ring_cells];rfl
theorem bfc_setFirst (g:Nat):(bfc room r f c).setIfInBounds 81 (.int .i64 g)=bfc room r g c:=by
 unfold bfc
 rw [List.setIfInBounds_toArray,List.set_cons_succ,List.set_append_right _ _ (by rw [ring_cells];omega),ring_cells];rfl
theorem bfc_setCount (g:Nat):(bfc room r f c).setIfInBounds 82 (.int .i64 g)=bfc room r f g:=by
 unfold bfc
 rw [List.setIfInBounds_toArray,List.set_cons_succ,List.set_append_right _ _ (by rw [ring_cells];omega),ring_cells];rfl
theorem bfc_has (t:TypeId) (n:Nat):rowHas (some (.cells (bfc room r f c) t (0,0))) (1+pl f n*5) 5=true:=by
 have:=pl_lt f n
 rw [rowHas_some,bfc_size];exact decide_eq_true (show _≤_ by omega)
theorem bfc_part (t:TypeId) (g:Nat×Nat) (n:Nat):rowPart (some (.cells (bfc room r f c) t g)) (1+pl f n*5) 5=sec (r.get (pl f n)):=by
 have h1:=pl_lt f n
 have h2:=ring_cells r
 rw [rowPart_some,sec_enc]
 unfold bfc
 rw [List.toList_toArray,Nat.add_comm 1,List.drop_succ_cons,List.drop_append_of_le_length (by omega),List.take_append_of_le_length (by rw [List.length_drop];omega),cat_part Se.len (r.at h1)]
theorem bfc_put (t:TypeId) (g:Nat×Nat) (n:Nat) (e:Se):rowPut (some (.cells (bfc room r f c) t g)) (1+pl f n*5) (sec e)=some (.cells (bfc room (r.put (pl f n) e) f c) t g):=by
 have h1:=pl_lt f n
 have h2:=ring_cells r
 rw [rowPut_some,sec_enc]
 unfold bfc Ring.put
 have e1:∀(v:Value) (l:List Value) (o:Nat),splice (v::l) (o+1) (Se.enc e)=v::splice l o (Se.enc e):=by
  intro v l o
  unfold splice
  rw [List.take_succ_cons,show o+1+(Se.enc e).length=(o+(Se.enc e).length)+1 by omega,List.drop_succ_cons];rfl
 rw [List.toList_toArray,List.toList_toArray,Nat.add_comm 1,e1,splice_append _ _ _ _ (by rw [h2,Se.len];omega),←cat_one (enc:=Se.enc) e,cat_splice Se.len]
 have h3:splice r.l (pl f n) [e]=r.l.set (pl f n) e:=by
  have:=r.h
  have e2:r.l.set (pl f n) e=r.l.take (pl f n)++e::r.l.drop (pl f n+1):=List.set_eq_take_append_cons_drop.trans (if_pos (by omega))
  rw [e2]
  simp [splice]
 rw [h3]
theorem bfc_cell {n j:Nat} (hj:j<5):(bfc room r f c)[1+pl f n*5+j]? =(Se.enc (r.get (pl f n)))[j]?:=by
 have hp:=bfc_part room r f c 0 (0,0) n
 rw [rowPart_some] at hp
 have hpl:=congrArg Array.toList hp
 rw [List.toList_toArray] at hpl
 have:=congrArg (·[j]?) hpl
 simpa [List.getElem?_take,hj,List.getElem?_drop,sec] using this
theorem bfc_kd (n:Nat):(bfc room r f c)[1+pl f n*5]? =some (.int .i64 (r.get (pl f n)).kd):=bfc_cell room r f c (j:=0) (by omega)
theorem bfc_li (n:Nat):(bfc room r f c)[1+pl f n*5+1]? =some (.int .i64 (r.get (pl f n)).li):=bfc_cell room r f c (by omega)
theorem bfc_wo (n:Nat):(bfc room r f c)[1+pl f n*5+2]? =some (.int .i64 (r.get (pl f n)).wo):=bfc_cell room r f c (by omega)
theorem bfc_va (n:Nat):(bfc room r f c)[1+pl f n*5+3]? =some (.int .u64 (r.get (pl f n)).va):=bfc_cell room r f c (by omega)
theorem bfc_sn (n:Nat):(bfc room r f c)[1+pl f n*5+4]? =some (.bool (r.get (pl f n)).sn):=bfc_cell room r f c (by omega)
theorem bfc_sent (t:TypeId) (g:Nat×Nat) (n:Nat):rowSet (some (.cells (bfc room r f c) t g)) (1+pl f n*5+4) (.bool true)=some (.cells (bfc room (r.put (pl f n) (sent (r.get (pl f n)))) f c) t g):=by
 have h1:=pl_lt f n
 have h2:=ring_cells r
 have h3:=bfc_put room r f c t g n (sent (r.get (pl f n)))
 rw [←h3,rowPut_some,rowSet_some]
 congr 2
 have hs:(bfc room r f c).toList.length=83:=by rw [Array.length_toList,bfc_size]
 apply Array.ext_getElem?
 intro k
 rw [←Array.getElem?_toList,←Array.getElem?_toList,List.toList_toArray,Array.toList_setIfInBounds]
 rw [getElem?_splice5 _ _ _ _ (by rw [hs];show _+5≤83;omega)]
 have hc:∀j,j<5→(bfc room r f c).toList[1+pl f n*5+j]? =(Se.enc (r.get (pl f n)))[j]?:=fun j hj=>by
  rw [Array.getElem?_toList];exact bfc_cell room r f c hj
 show _=if k<1+pl f n*5 then _ else if k<1+pl f n*5+5 then _ else _
 by_cases ha:k<1+pl f n*5
 ·rw [if_pos ha,List.getElem?_set_ne (by omega)]
 rw [if_neg ha]
 by_cases hb:k<1+pl f n*5+5
 ·rw [if_pos hb]
  obtain ⟨j,rfl⟩:∃j,k=1+pl f n*5+j:=⟨k-(1+pl f n*5),by omega⟩
  have hj:j<5:=by omega
  have hcj:=hc j hj
  rw [show 1+pl f n*5+j-(1+pl f n*5)=j by omega]
  match j,hj with
  |0,_=>rw [List.getElem?_set_ne (by omega),hcj];rfl
  |1,_=>rw [List.getElem?_set_ne (by omega),hcj];rfl
  |2,_=>rw [List.getElem?_set_ne (by omega),hcj];rfl
  |3,_=>rw [List.getElem?_set_ne (by omega),hcj];rfl
  |4,_=>rw [List.getElem?_set_self (by rw [hs];omega)];rfl
 ·rw [if_neg hb,List.getElem?_set_ne (by omega)]
end
def within12 (n a b:Int):Bool:=decide (a≤n)&&decide (n≤b)
def goodSe (e:Se):Bool:=
 within12 e.li 0 63&&!e.sn&&((e.kd==9&&within12 e.wo 0 7)||((e.kd==12||e.kd==13||e.kd==14)&&(e.wo==0&&e.va==0)))
def sbV (room:Nat) (es:List Se) (e:Se):Int:=if goodSe e then (if room≤es.length then 13 else 0) else 11
def sbE (room:Nat) (es:List Se) (e:Se):List Se:=if goodSe e then (if room≤es.length then es else es++[e]) else es
def hdE (es:List Se):Se:=es.headD seZ
def hdB (es:List Se):Bool:=!es.isEmpty
def isAt (li wo:Int) (e:Se):Bool:=e.kd==9&&(e.li==li&&e.wo==wo)
def fdO (es:List Se) (li wo:Int):Option Se:=es.reverse.find? (isAt li wo)
def fdV (es:List Se) (li wo:Int):Int:=match fdO es li wo with|some e=>e.va|none=>0
def fdB (es:List Se) (li wo:Int):Bool:=(fdO es li wo).isSome
def sdE:List Se→List Se
 |[]=>[]
 |e::es=>if e.kd=14 then sent e::es else e::es
theorem fdO_none {es:List Se} {li wo:Int} (h:∀e∈es,isAt li wo e=false):fdO es li wo=none:=by
 unfold fdO
 rw [List.find?_eq_none]
 intro x hx
 simp [h x (List.mem_reverse.1 hx)]
theorem fdO_some {es:List Se} {li wo:Int} {k:Nat} {e:Se} (he:es[k]? =some e) (h:isAt li wo e=true) (hd:∀x∈es.drop (k+1),isAt li wo x=false):fdO es li wo=some e:=by
 obtain ⟨hk,rfl⟩:=List.getElem?_eq_some_iff.1 he
 have hc:es=es.take k++es[k]::es.drop (k+1):=by rw [←List.drop_eq_getElem_cons hk,List.take_append_drop]
 unfold fdO
 rw [show es.reverse=(es.drop (k+1)).reverse++es[k]::(es.take k).reverse by
  conv=>lhs;rw [hc]
  simp,List.find?_append,List.find?_eq_none.2 (by
  intro x hx
  simp [hd x (List.mem_reverse.1 hx)]),List.find?_cons_of_pos h]
 rfl
theorem drop_all12 {α:Type} {p:α→Bool} {es:List α} {k:Nat} {e:α} (he:es[k]? =some e) (h:p e=false) (hd:∀x∈es.drop (k+1),p x=false):∀x∈es.drop k,p x=false:=by
 obtain ⟨hk,rfl⟩:=List.getElem?_eq_some_iff.1 he
 rw [List.drop_eq_getElem_cons hk]
 intro x hx
 rcases List.mem_cons.1 hx with rfl|hx
 ·exact h
 ·exact hd x hx
end
section
structure Ev where
 kd:Int
 co:Int
 li:Int
 wo:Int
 va:Int
deriving DecidableEq
def Ev.enc (e:Ev):List Value:=[.int .i64 e.kd,.int .i64 e.co,.int .i64 e.li,.int .i64 e.wo,.int .u64 e.va]
def evc (e:Ev):Array Value:=(Ev.enc e).toArray
def evZ:Ev:=⟨0,0,0,0,0⟩
theorem Ev.len (e:Ev):(Ev.enc e).length=5:=rfl
theorem Ev.one (e:Ev):∀v∈Ev.enc e,v.oneCell'=true:=by
 intro v hv
 simp only [Ev.enc,List.mem_cons,List.not_mem_nil,or_false] at hv
 rcases hv with rfl|rfl|rfl|rfl|rfl<;>rfl
theorem evc_size (e:Ev):(evc e).size=5:=by simp [evc,Ev.enc]
theorem evc_one (e:Ev):allOne (evc e):=allOne_list _ (List.all_eq_true.2 (Ev.one e))
theorem evc_kd (e:Ev):(evc e)[0]? =some (.int .i64 e.kd):=rfl
theorem evc_co (e:Ev):(evc e)[1]? =some (.int .i64 e.co):=rfl
theorem evc_li (e:Ev):(evc e)[2]? =some (.int .i64 e.li):=rfl
theorem evc_wo (e:Ev):(evc e)[3]? =some (.int .i64 e.wo):=rfl
theorem evc_va (e:Ev):(evc e)[4]? =some (.int .u64 e.va):=rfl
theorem evc_lit (k c l o v:Int):(#[.int .i64 k,.int .i64 c,.int .i64 l,.int .i64 o,.int .u64 v]:Array Value)=evc ⟨k,c,l,o,v⟩:=rfl
theorem evc_z:evc ⟨0,0,0,0,0⟩=evc evZ:=rfl
theorem evc_set0 (e:Ev) (v:Int):(evc e).setIfInBounds 0 (.int .i64 v)=evc ⟨v,e.co,e.li,e.wo,e.va⟩:=by simp [evc,Ev.enc]
theorem evc_set1 (e:Ev) (v:Int):(evc e).setIfInBounds 1 (.int .i64 v)=evc ⟨e.kd,v,e.li,e.wo,e.va⟩:=by simp [evc,Ev.enc]
theorem evc_set2 (e:Ev) (v:Int):(evc e).setIfInBounds 2 (.int .i64 v)=evc ⟨e.kd,e.co,v,e.wo,e.va⟩:=by simp [evc,Ev.enc]
theorem evc_set3 (e:Ev) (v:Int):(evc e).setIfInBounds 3 (.int .i64 v)=evc ⟨e.kd,e.co,e.li,v,e.va⟩:=by simp [evc,Ev.enc]
theorem evc_set4 (e:Ev) (v:Int):(evc e).setIfInBounds 4 (.int .u64 v)=evc ⟨e.kd,e.co,e.li,e.wo,v⟩:=by simp [evc,Ev.enc]
theorem evZ_kd:evZ.kd=0:=rfl
theorem evZ_co:evZ.co=0:=rfl
theorem evZ_li:evZ.li=0:=rfl
theorem evZ_wo:evZ.wo=0:=rfl
theorem evZ_va:evZ.va=0:=rfl
theorem evc_ne (e:Ev):(evc e=#[])=False:=eq_false (fun h=>by have:=congrArg Array.size h;rw [evc_size] at this;cases this)
theorem fold_evc (C:Array Value) (e:Ev) (h:C.size=5):Array.foldl (fun cs y=>cs.setIfInBounds y.snd y.fst) C (evc e).zipIdx 0 5=evc e:=fold_all _ _ _ (evc_size e) h
theorem sq_one_ev (e:Ev):sq Ev.enc [e] []=evc e:=by simp [sq,cat,evc]
end
end Go.Proofs.YtcjoinhngdfdmaaGreatDoor
