/- Texts of the walk, one behind the other: Agc Agd Age Agf Mes. No condition. -/
import Derived.Test.YtcjoinhngdfdmaaGreatDoorCLab
import Derived.Test.YtcjoinhngdfdmaaGreatDoorCLad
import Derived.Test.YtcjoinhngdfdmaaGreatDoorCLae
import Derived.BigQuiet
import Derived.Deep.Cut
import Derived.Deep.CutBlock
import Derived.Deep.CutRange
import Derived.Deep.DeepCutAuto
import Derived.Deep.QuietTactic
import Derived.Deep.RegionHeld3
import Derived.Deep.RegionWith
namespace Go.Proofs.YtcjoinhngdfdmaaGreatDoor
open Go.RowKit
set_option linter.unusedVariables false
set_option maxHeartbeats 1000000
attribute [local go_sem ↓] append_appS copy_copS clear_clrS make_mkS cell_row frozen_row loadLine storeLine loadSlot storeSlot heap_drew heap_drewN heap_alloc heap_past heap_setCell heap_putRow slc_st slc_li slc_us slice_slS loadMsg storeMsg loadHas storeHas msc_kd msc_li msc_di msc_ke
attribute [local go_sem] rowCell_some rowFrozen_some rowHas_some rowIn_some rowPart_full rowPut_full rowSet_some vs_size vs_one wideLine wideSlot run_loadS run_storeS run_appS run_copS run_clrS run_mkS loadW_at storeW_at fit_all fit_le one_int one_bool one_pointer one_slice allOne_list putRow_new ne_size1 ne_size2 zero8_length lines_nil line_eq lit8 slc_size slc_one slc_part fold_slt fold_slc slc_set_us wideMsg wideHas run_slS msc_size msc_one msc_part fold_msc msc_putDi msc_putKe msc_putX ms4_lit ms4_k ms4_l
attribute [local simp ↓] heap_drew heap_drewN heap_alloc heap_past heap_setCell heap_putRow
attribute [local simp] rowCell_some rowFrozen_some rowHas_some rowIn_some rowPart_full rowPut_full rowSet_some vs_size fit_all putRow_new ne_size1 ne_size2 zero8_length slc_size msc_size msc_putDi msc_putKe msc_putX fit_le ms4_k ms4_l
section
section
variable {W w w1:World} {g a b S N:Nat} {s:Sta} {f:Value→Value}
theorem AgRet.one (h:Agt W w1 g a b S N s) (hc:Chg [a,b] w w1) (m:Ms):AgRet W w g a b S N s f [m] (.returned (f (.slice (some ⟨w1.heap.size,0,none⟩) 1 1))) (w1.alloc (.cells (msc m) 50)):=
 ⟨_,1,rfl,(Told.one w1 m).from hc.size,h.keep ((Chg.refl [] w1).alloc _),hc.alloc _⟩
theorem AgRet.nil (h:Agt W w1 g a b S N s) (hc:Chg [a,b] w w1):AgRet W w g a b S N s f [] (.returned (f (.slice none 0 0))) w1:=
 ⟨none,0,rfl,Told.nil _ _,h,hc⟩
theorem weak2 (h:Chg [] w w1):Chg [a,b] w w1:=h.mono (by simp)
end
theorem out_yes {S N:Nat} {s:Sta} {li:Int} (h:atRest (findVal s.1 li).st=true):outF S N s li=(setS S N s li (outNx (findVal s.1 li).st) (findVal s.1 li).l (findVal s.1 li).h,[toldM 3 (findVal s.1 li) false]):=by unfold outF;rw [if_pos h]
theorem out_no {S N:Nat} {s:Sta} {li:Int} (h:atRest (findVal s.1 li).st=false):outF S N s li=(s,[]):=by unfold outF;rw [if_neg (by simp [h])]
theorem gout_any {W:World} {g a b S N:Nat} {s:Sta} (li:Int) (w:World) (h:Agt W w g a b S N s) (hu:s.2≤1000000000):Calls Tryz.prog 203 #[.pointer (some ⟨g,0,none⟩),.int .i64 li] w (AgRet W w g a b S N (outF S N s li).1 (fun v=>v) (outF S N s li).2):=by
 have H:=Lib.hid h
 have rG:=h.2.1
 have CW:=Lib.hid (Chg.refl [a,b] w)
 clear h
 have hf:=gfind_any H.out li
 cases hr:atRest (findVal s.1 li).st
 ·rw [out_no hr]
  generalize findVal s.1 li=x at hf hr
  go_enter Tryz.func203,Tryz.ntmps203
  try dsimp only [List.append]
  go_wp2_with fail
  refine hf.mono ?_
  clear hf
  rintro e w2 ⟨rfl,c2⟩
  go_wp2_with (go_at_call 200;refine (grest_at _ _ hr _).mono ?_;rintro e w' ⟨rfl,rfl⟩)
  go_ret
  exact AgRet.nil (f:=fun v=>v) (H.out.keep (c2.alloc _)) (weak2 (c2.alloc _))
 ·rw [out_yes hr]
  generalize findVal s.1 li=x at hf hr
  have hx8:=x.h
  have q:((x.st==3)=true∧outNx x.st=9)∨((x.st==3)=false∧outNx x.st=7):=by
   unfold outNx
   cases h3:(x.st==3)
   ·exact .inr ⟨rfl,by rw [if_neg (by simpa using h3)]⟩
   ·exact .inl ⟨rfl,by rw [if_pos (by simpa using h3)]⟩
  rcases q with ⟨q1,q2⟩|⟨q1,q2⟩
  all_goals
   rw [q2]
   clear q2
   go_enter Tryz.func203,Tryz.ntmps203
   try dsimp only [List.append]
   go_wp2_with fail
   refine hf.mono ?_
   clear hf
   rintro e w2 ⟨rfl,c2⟩
   replace H:=Lib.hid (H.out.keep c2)
   replace CW:=Lib.hid (CW.out.trans (weak2 c2))
   clear c2
   have rG:=H.out.2.1
   go_wp2_with fail
   have cb:=(Chg.refl [] w2).alloc (.cells (slc x) 205 (0,0))
   have rX:(w2.alloc (.cells (slc x) 205 (0,0))).heap[w2.heap.size]? =some (.cells (slc x) 205 (0,0)):=by simp
   have nX:=H.out.new2 (k:=w2.heap.size) (Nat.le_refl _)
   have mX:=H.out.new3 (k:=w2.heap.size) (Nat.le_refl _)
   have vX:=H.out.1.1.size
   have uXx:=CW.out.size
   replace H:=Lib.hid (H.out.keep cb)
   replace CW:=Lib.hid (CW.out.trans (weak2 cb))
   clear cb
   generalize w2.heap.size=pX at rX nX mX vX uXx ⊢
   generalize w2.alloc (.cells (slc x) 205 (0,0))=w3 at rX H CW ⊢
   have rG:=H.out.2.1
   have oX:=old rX
   refine (grest_at _ _ hr _).mono ?_
   rintro e w' ⟨rfl,rfl⟩
   go_wp2_with fail
   have nG:=H.out.2.2.2.1
   go_region_held3 (fun w'=>w'.heap[g]? =some (.cells #[.pointer (some ⟨a,0,none⟩)] 209 (0,0))∧w'.heap[pX]? =some (.cells (slc x) 205 (0,0))) (first |exact ⟨rG,rX⟩|exact ⟨c4.keep rG nG,c4.keep rX nX⟩)
    (first
     |(go_at_call 106;refine (gset_any (H.out.keep (Chg.drew (Chg.refl [] w3))) hu li _ x.l x.h).mono ?_;rintro e w4 ⟨rfl,h4,c4⟩))
   all_goals
    replace H:=Lib.hid h4
    replace CW:=Lib.hid (CW.out.trans (Chg.trans (Chg.drew (Chg.refl [a,b] w3)) c4))
    replace rX:=c4.keep rX nX
    clear h4 c4 rG
    have rG:=H.out.2.1
    go_wp2_with fail
    refine (gtold_any 3 x _).mono ?_
    rintro e w5 ⟨rfl,c5⟩
    go_wp2_with fail
    go_ret
    exact AgRet.one (f:=fun v=>v) (H.out.keep c5) (CW.out.trans (weak2 c5)) _
end
section
theorem gget_any {W:World} {g a b S N:Nat} {s:Sta} (li st kd:Int) (w:World) (h:Agt W w g a b S N s) (hu:s.2≤1000000000):Calls Tryz.prog 194 #[.pointer (some ⟨g,0,none⟩),.int .i64 li,.int .i64 st,.int .i64 kd] w (AgRet W w g a b S N (getF S N s li st kd).1 (fun v=>v) (getF S N s li st kd).2):=by
 have H:=Lib.hid h
 have rG:=h.2.1
 have CW:=Lib.hid (Chg.refl [a,b] w)
 clear h
 have hf:=groom_any H.out li
 cases hr:roomFree S N s.1 li
 ·rw [show getF S N s li st kd=outF S N s (roomVic S N s.1 li) by unfold getF;rw [if_neg (by simp [hr])]]
  rw [hr] at hf
  generalize roomVic S N s.1 li=v at hf
  go_enter Tryz.func194,Tryz.ntmps194
  try dsimp only [List.append]
  go_wp2_with fail
  refine hf.mono ?_
  clear hf
  rintro e w2 ⟨rfl,c2⟩
  replace H:=Lib.hid (H.out.keep c2)
  replace CW:=Lib.hid (CW.out.trans (weak2 c2))
  clear c2
  have rG:=H.out.2.1
  go_wp2_with fail
  refine (gout_any v w2 H.out hu).mono ?_
  rintro e w3 ⟨A,n,rfl,h1,h2,h3⟩
  go_wp2_with fail
  go_ret
  exact ⟨A,n,rfl,h1.from CW.out.size,h2,CW.out.trans h3⟩
 ·rw [show getF S N s li st kd=(setS S N s li st zl8 rfl,[ms4 kd li false false]) by unfold getF;rw [if_pos hr]]
  rw [hr] at hf
  generalize roomVic S N s.1 li=v at hf
  go_enter Tryz.func194,Tryz.ntmps194
  try dsimp only [List.append]
  go_wp2_with fail
  refine hf.mono ?_
  clear hf
  rintro e w2 ⟨rfl,c2⟩
  replace H:=Lib.hid (H.out.keep c2)
  replace CW:=Lib.hid (CW.out.trans (weak2 c2))
  clear c2
  have rG:=H.out.2.1
  go_wp2_with fail
  refine (gsetz_any H.out hu li st).mono ?_
  rintro e w4 ⟨rfl,h4,c4⟩
  go_wp2_with fail
  go_ret
  exact AgRet.one (f:=fun v=>v) h4 (CW.out.trans c4) _
theorem gload_any {W:World} {g a b S N:Nat} {s:Sta} (li k:Int) (w:World) (h:Agt W w g a b S N s) (hu:s.2≤1000000000):Calls Tryz.prog 173 #[.pointer (some ⟨g,0,none⟩),.int .i64 li,.int .i64 k] w (AgRet W w g a b S N (loadF S N s li k).1 (fun v=>.tuple #[.int .u64 (loadF S N s li k).2.1,.bool (loadF S N s li k).2.2.1,v]) (loadF S N s li k).2.2.2):=by
 have H:=Lib.hid h
 have rG:=h.2.1
 have CW:=Lib.hid (Chg.refl [a,b] w)
 clear h
 have hf:=gfind_any H.out li
 cases t1:isLn li
 ·rw [show loadF S N s li k=(s,(0,false,[])) by unfold loadF;rw [if_neg (by simp [t1])]]
  go_enter Tryz.func173,Tryz.ntmps173
  try dsimp only [List.append]
  go_wp2_with (first |(go_at_call 177;refine (gline_at _ _ t1 _).mono ?_;rintro e w' ⟨rfl,rfl⟩)|(go_at_call 178;refine (gword_at _ _ t2 _).mono ?_;rintro e w' ⟨rfl,rfl⟩))
  go_ret3
  exact AgRet.nil (f:=fun v=>.tuple #[.int .u64 0,.bool false,v]) H.out CW.out
 cases t2:isWd k
 ·rw [show loadF S N s li k=(s,(0,false,[])) by unfold loadF;rw [if_neg (by simp [t2])]]
  go_enter Tryz.func173,Tryz.ntmps173
  try dsimp only [List.append]
  go_wp2_with (first |(go_at_call 177;refine (gline_at _ _ t1 _).mono ?_;rintro e w' ⟨rfl,rfl⟩)|(go_at_call 178;refine (gword_at _ _ t2 _).mono ?_;rintro e w' ⟨rfl,rfl⟩))
  go_ret3
  exact AgRet.nil (f:=fun v=>.tuple #[.int .u64 0,.bool false,v]) H.out CW.out
 obtain ⟨K,hK,rfl⟩:∃K:Nat,K<8∧k=K:=by simp [isWd] at t2;exact ⟨k.toNat,by omega,by omega⟩
 cases hm:mayR (findVal s.1 li).st
 ·cases hi:idleB s.1
  ·rw [show loadF S N s li K=(s,(0,false,[])) by unfold loadF;rw [if_pos (by simp [t1,t2]),if_neg (by simp [hm]),if_neg (by simp [hi])]]
   generalize findVal s.1 li=x at hf hm
   go_enter Tryz.func173,Tryz.ntmps173
   try dsimp only [List.append]
   go_wp2_with (first |(go_at_call 177;refine (gline_at _ _ t1 _).mono ?_;rintro e w' ⟨rfl,rfl⟩)|(go_at_call 178;refine (gword_at _ _ t2 _).mono ?_;rintro e w' ⟨rfl,rfl⟩))
   refine hf.mono ?_
   clear hf
   rintro e w2 ⟨rfl,c2⟩
   replace H:=Lib.hid (H.out.keep c2)
   replace CW:=Lib.hid (CW.out.trans (weak2 c2))
   clear c2
   have rG:=H.out.2.1
   go_wp2_with fail
   have cb:=(Chg.refl [] w2).alloc (.cells (slc x) 205 (0,0))
   have rX:(w2.alloc (.cells (slc x) 205 (0,0))).heap[w2.heap.size]? =some (.cells (slc x) 205 (0,0)):=by simp
   have nX:=H.out.new2 (k:=w2.heap.size) (Nat.le_refl _)
   have mX:=H.out.new3 (k:=w2.heap.size) (Nat.le_refl _)
   have vX:=H.out.1.1.size
   have uXx:=CW.out.size
   replace H:=Lib.hid (H.out.keep cb)
   replace CW:=Lib.hid (CW.out.trans (weak2 cb))
   clear cb
   generalize w2.heap.size=pX at rX nX mX vX uXx ⊢
   generalize w2.alloc (.cells (slc x) 205 (0,0))=w3 at rX H CW ⊢
   have rG:=H.out.2.1
   have oX:=old rX
   refine (gread_at _ _ hm _).mono ?_
   rintro e w' ⟨rfl,rfl⟩
   go_wp2_with fail
   refine (gidle_at _ hi w3 H.out).mono ?_
   rintro e w4 ⟨rfl,c4⟩
   go_wp2_with fail
   go_ret3
   exact AgRet.nil (f:=fun v=>.tuple #[.int .u64 0,.bool false,v]) (H.out.keep c4) (CW.out.trans (weak2 c4))
  ·rw [show loadF S N s li K=((getF S N s li 4 1).1,(0,false,(getF S N s li 4 1).2)) by unfold loadF;rw [if_pos (by simp [t1,t2]),if_neg (by simp [hm]),if_pos hi]]
   generalize findVal s.1 li=x at hf hm
   go_enter Tryz.func173,Tryz.ntmps173
   try dsimp only [List.append]
   go_wp2_with (first |(go_at_call 177;refine (gline_at _ _ t1 _).mono ?_;rintro e w' ⟨rfl,rfl⟩)|(go_at_call 178;refine (gword_at _ _ t2 _).mono ?_;rintro e w' ⟨rfl,rfl⟩))
   refine hf.mono ?_
   clear hf
   rintro e w2 ⟨rfl,c2⟩
   replace H:=Lib.hid (H.out.keep c2)
   replace CW:=Lib.hid (CW.out.trans (weak2 c2))
   clear c2
   have rG:=H.out.2.1
   go_wp2_with fail
   have cb:=(Chg.refl [] w2).alloc (.cells (slc x) 205 (0,0))
   have rX:(w2.alloc (.cells (slc x) 205 (0,0))).heap[w2.heap.size]? =some (.cells (slc x) 205 (0,0)):=by simp
   have nX:=H.out.new2 (k:=w2.heap.size) (Nat.le_refl _)
   have mX:=H.out.new3 (k:=w2.heap.size) (Nat.le_refl _)
   have vX:=H.out.1.1.size
   have uXx:=CW.out.size
   replace H:=Lib.hid (H.out.keep cb)
   replace CW:=Lib.hid (CW.out.trans (weak2 cb))
   clear cb
   generalize w2.heap.size=pX at rX nX mX vX uXx ⊢
   generalize w2.alloc (.cells (slc x) 205 (0,0))=w3 at rX H CW ⊢
   have rG:=H.out.2.1
   have oX:=old rX
   refine (gread_at _ _ hm _).mono ?_
   rintro e w' ⟨rfl,rfl⟩
   go_wp2_with fail
   refine (gidle_at _ hi w3 H.out).mono ?_
   rintro e w4 ⟨rfl,c4⟩
   replace H:=Lib.hid (H.out.keep c4)
   replace CW:=Lib.hid (CW.out.trans (weak2 c4))
   clear c4
   have rG:=H.out.2.1
   go_wp2_with fail
   refine (gget_any li 4 1 w4 H.out hu).mono ?_
   rintro e w5 ⟨A,n,rfl,h1,h2,h3⟩
   go_wp2_with fail
   go_ret3
   exact ⟨A,n,rfl,h1.from CW.out.size,h2,CW.out.trans h3⟩
 ·rw [show loadF S N s li K=(touchS s li,((findVal s.1 li).l.getD K 0,true,[])) by unfold loadF;rw [if_pos (by simp [t1,t2]),if_pos hm,Int.toNat_natCast]]
  generalize findVal s.1 li=x at hf hm
  have hwd:=slc_word x K hK
  have g1:(K:Int)<8:=by omega
  have g0:(0:Int)≤(K:Int):=by omega
  go_enter Tryz.func173,Tryz.ntmps173
  try dsimp only [List.append]
  go_wp2_with (first |(go_at_call 177;refine (gline_at _ _ t1 _).mono ?_;rintro e w' ⟨rfl,rfl⟩)|(go_at_call 178;refine (gword_at _ _ t2 _).mono ?_;rintro e w' ⟨rfl,rfl⟩))
  refine hf.mono ?_
  clear hf
  rintro e w2 ⟨rfl,c2⟩
  replace H:=Lib.hid (H.out.keep c2)
  replace CW:=Lib.hid (CW.out.trans (weak2 c2))
  clear c2
  have rG:=H.out.2.1
  go_wp2_with fail
  have cb:=(Chg.refl [] w2).alloc (.cells (slc x) 205 (0,0))
  have rX:(w2.alloc (.cells (slc x) 205 (0,0))).heap[w2.heap.size]? =some (.cells (slc x) 205 (0,0)):=by simp
  have nX:=H.out.new2 (k:=w2.heap.size) (Nat.le_refl _)
  have mX:=H.out.new3 (k:=w2.heap.size) (Nat.le_refl _)
  have vX:=H.out.1.1.size
  have uXx:=CW.out.size
  replace H:=Lib.hid (H.out.keep cb)
  replace CW:=Lib.hid (CW.out.trans (weak2 cb))
  clear cb
  generalize w2.heap.size=pX at rX nX mX vX uXx ⊢
  generalize w2.alloc (.cells (slc x) 205 (0,0))=w3 at rX H CW ⊢
  have rG:=H.out.2.1
  have oX:=old rX
  refine (gread_at _ _ hm _).mono ?_
  rintro e w' ⟨rfl,rfl⟩
  go_wp2_with fail
  refine (gtouch_any H.out hu li).mono ?_
  rintro e w4 ⟨rfl,h4,c4⟩
  replace rX:=c4.keep rX nX
  go_wp2_with fail
  go_ret3
  exact AgRet.nil (f:=fun v=>.tuple #[.int .u64 (x.l.getD K 0),.bool true,v]) h4 (CW.out.trans c4)
theorem greach_any {W:World} {g a b S N:Nat} {s:Sta} (li:Int) (w:World) (h:Agt W w g a b S N s) (hu:s.2≤1000000000):Calls Tryz.prog 176 #[.pointer (some ⟨g,0,none⟩),.int .i64 li] w (AgRet W w g a b S N (reachF S N s li).1 (fun v=>v) (reachF S N s li).2):=by
 have H:=Lib.hid h
 have rG:=h.2.1
 have CW:=Lib.hid (Chg.refl [a,b] w)
 clear h
 have hf:=gfind_any H.out li
 cases t1:isLn li
 ·rw [show reachF S N s li=(s,[]) by unfold reachF;rw [if_neg (by simp [t1])]]
  go_enter Tryz.func176,Tryz.ntmps176
  try dsimp only [List.append]
  go_wp2_with (go_at_call 177;refine (gline_at _ _ t1 _).mono ?_;rintro e w' ⟨rfl,rfl⟩)
  go_ret
  exact AgRet.nil (f:=fun v=>v) H.out CW.out
 cases ho:ownsB s.1 li
 rotate_left
 ·rw [show reachF S N s li=(s,[]) by unfold reachF;rw [if_neg (by simp [ho])]]
  go_enter Tryz.func176,Tryz.ntmps176
  try dsimp only [List.append]
  go_wp2_with (go_at_call 177;refine (gline_at _ _ t1 _).mono ?_;rintro e w' ⟨rfl,rfl⟩)
  refine (gowns_at li _ ho w H.out).mono ?_
  rintro e w3 ⟨rfl,c3⟩
  go_wp2_with fail
  go_ret
  exact AgRet.nil (f:=fun v=>v) (H.out.keep c3) (weak2 c3)
 cases hi:idleB s.1
 ·rw [show reachF S N s li=(s,[]) by unfold reachF;rw [if_neg (by simp [hi])]]
  go_enter Tryz.func176,Tryz.ntmps176
  try dsimp only [List.append]
  go_wp2_with (go_at_call 177;refine (gline_at _ _ t1 _).mono ?_;rintro e w' ⟨rfl,rfl⟩)
  refine (gowns_at li _ ho w H.out).mono ?_
  rintro e w3 ⟨rfl,c3⟩
  go_wp2_with fail
  refine (gidle_at _ hi w3 (H.out.keep c3)).mono ?_
  rintro e w4 ⟨rfl,c4⟩
  go_wp2_with fail
  go_ret
  exact AgRet.nil (f:=fun v=>v) ((H.out.keep c3).keep c4) (weak2 (c3.trans c4))
 have hgo:(isLn li&&!ownsB s.1 li&&idleB s.1)=true:=by simp [t1,ho,hi]
 cases hd:dropVal s.1 li
 ·rw [show reachF S N s li=getF S N s li 5 2 by unfold reachF;rw [if_pos hgo,if_neg (by simp [hd])]]
  clear hgo
  generalize findVal s.1 li=x at hf
  rw [hd] at hf
  go_enter Tryz.func176,Tryz.ntmps176
  try dsimp only [List.append]
  go_wp2_with (go_at_call 177;refine (gline_at _ _ t1 _).mono ?_;rintro e w' ⟨rfl,rfl⟩)
  refine (gowns_at li _ ho w H.out).mono ?_
  rintro e w3 ⟨rfl,c3⟩
  go_wp2_with fail
  refine (gidle_at _ hi w3 (H.out.keep c3)).mono ?_
  rintro e w4 ⟨rfl,c4⟩
  replace hf:=gfind_any ((H.out.keep c3).keep c4) li
  rw [hd] at hf
  replace H:=Lib.hid (H.out.keep c3)
  replace CW:=Lib.hid (CW.out.trans (weak2 c3))
  clear c3
  have rG:=H.out.2.1
  replace H:=Lib.hid (H.out.keep c4)
  replace CW:=Lib.hid (CW.out.trans (weak2 c4))
  clear c4
  have rG:=H.out.2.1
  go_wp2_with fail
  refine hf.mono ?_
  clear hf
  rintro e w2 ⟨rfl,c2⟩
  generalize findVal s.1 li=x
  replace H:=Lib.hid (H.out.keep c2)
  replace CW:=Lib.hid (CW.out.trans (weak2 c2))
  clear c2
  have rG:=H.out.2.1
  go_wp2_with fail
  have cb:=(Chg.refl [] w2).alloc (.cells (slc x) 205 (0,0))
  have rX:(w2.alloc (.cells (slc x) 205 (0,0))).heap[w2.heap.size]? =some (.cells (slc x) 205 (0,0)):=by simp
  have nX:=H.out.new2 (k:=w2.heap.size) (Nat.le_refl _)
  have mX:=H.out.new3 (k:=w2.heap.size) (Nat.le_refl _)
  have vX:=H.out.1.1.size
  have uXx:=CW.out.size
  replace H:=Lib.hid (H.out.keep cb)
  replace CW:=Lib.hid (CW.out.trans (weak2 cb))
  clear cb
  generalize w2.heap.size=pX at rX nX mX vX uXx ⊢
  generalize w2.alloc (.cells (slc x) 205 (0,0))=w5 at rX H CW ⊢
  have rG:=H.out.2.1
  have oX:=old rX
  refine (gget_any li 5 2 w5 H.out hu).mono ?_
  rintro e w6 ⟨A,n,rfl,h1,h2,h3⟩
  go_wp2_with fail
  go_ret
  exact ⟨A,n,rfl,h1.from CW.out.size,h2,CW.out.trans h3⟩
 ·rw [show reachF S N s li=(setS S N s li 6 (findVal s.1 li).l (findVal s.1 li).h,[ms4 2 li false false]) by unfold reachF;rw [if_pos hgo,if_pos hd]]
  clear hgo
  replace hf:=fun W' hW=>gfind_any (w:=W') (s:=s) (W:=W) (g:=g) (a:=a) (b:=b) (S:=S) (N:=N) hW li
  simp only [hd] at hf
  generalize findVal s.1 li=x at hf
  go_enter Tryz.func176,Tryz.ntmps176
  try dsimp only [List.append]
  go_wp2_with (go_at_call 177;refine (gline_at _ _ t1 _).mono ?_;rintro e w' ⟨rfl,rfl⟩)
  refine (gowns_at li _ ho w H.out).mono ?_
  rintro e w3 ⟨rfl,c3⟩
  go_wp2_with fail
  refine (gidle_at _ hi w3 (H.out.keep c3)).mono ?_
  rintro e w4 ⟨rfl,c4⟩
  replace H:=Lib.hid (H.out.keep c3)
  replace CW:=Lib.hid (CW.out.trans (weak2 c3))
  clear c3
  have rG:=H.out.2.1
  replace H:=Lib.hid (H.out.keep c4)
  replace CW:=Lib.hid (CW.out.trans (weak2 c4))
  clear c4
  have rG:=H.out.2.1
  go_wp2_with fail
  refine (hf w4 H.out).mono ?_
  clear hf
  rintro e w2 ⟨rfl,c2⟩
  replace H:=Lib.hid (H.out.keep c2)
  replace CW:=Lib.hid (CW.out.trans (weak2 c2))
  clear c2
  have rG:=H.out.2.1
  go_wp2_with fail
  have cb:=(Chg.refl [] w2).alloc (.cells (slc x) 205 (0,0))
  have rX:(w2.alloc (.cells (slc x) 205 (0,0))).heap[w2.heap.size]? =some (.cells (slc x) 205 (0,0)):=by simp
  have nX:=H.out.new2 (k:=w2.heap.size) (Nat.le_refl _)
  have mX:=H.out.new3 (k:=w2.heap.size) (Nat.le_refl _)
  have vX:=H.out.1.1.size
  have uXx:=CW.out.size
  replace H:=Lib.hid (H.out.keep cb)
  replace CW:=Lib.hid (CW.out.trans (weak2 cb))
  clear cb
  generalize w2.heap.size=pX at rX nX mX vX uXx ⊢
  generalize w2.alloc (.cells (slc x) 205 (0,0))=w5 at rX H CW ⊢
  have rG:=H.out.2.1
  have oX:=old rX
  go_wp2_with fail
  have nG:=H.out.2.2.2.1
  go_region_held3 (fun w'=>w'.heap[g]? =some (.cells #[.pointer (some ⟨a,0,none⟩)] 209 (0,0))∧w'.heap[pX]? =some (.cells (slc x) 205 (0,0))) (first |exact ⟨rG,rX⟩|exact ⟨c4.keep rG nG,c4.keep rX nX⟩)
   (first
    |(go_at_call 106;refine (gset_any (H.out.keep (Chg.drew (Chg.refl [] w5))) hu li 6 x.l x.h).mono ?_;rintro e w4 ⟨rfl,h4,c4⟩))
  all_goals
   replace H:=Lib.hid h4
   replace CW:=Lib.hid (CW.out.trans (Chg.trans (Chg.drew (Chg.refl [a,b] w5)) c4))
   replace rX:=c4.keep rX nX
   clear h4 c4 rG
   have rG:=H.out.2.1
   go_wp2_with fail
   go_ret
   exact AgRet.one (f:=fun v=>v) H.out CW.out _
theorem gstore_any {W:World} {g a b S N:Nat} {s:Sta} (li k v0:Int) (w:World) (h:Agt W w g a b S N s) (hu:s.2≤1000000000):Calls Tryz.prog 142 #[.pointer (some ⟨g,0,none⟩),.int .i64 li,.int .i64 k,.int .u64 v0] w (AgRet W w g a b S N (storeF S N s li k v0).1 (fun v=>.tuple #[.bool (storeF S N s li k v0).2.1,v]) (storeF S N s li k v0).2.2):=by
 have H:=Lib.hid h
 have rG:=h.2.1
 have CW:=Lib.hid (Chg.refl [a,b] w)
 clear h
 have hf:=gfind_any H.out li
 cases t1:isLn li
 ·rw [show storeF S N s li k v0=(s,(false,[])) by unfold storeF;rw [if_neg (by simp [t1])]]
  go_enter Tryz.func142,Tryz.ntmps142
  try dsimp only [List.append]
  go_wp2_with (first |(go_at_call 177;refine (gline_at _ _ t1 _).mono ?_;rintro e w' ⟨rfl,rfl⟩)|(go_at_call 178;refine (gword_at _ _ t2 _).mono ?_;rintro e w' ⟨rfl,rfl⟩))
  go_ret2
  exact AgRet.nil (f:=fun v=>.tuple #[.bool false,v]) H.out CW.out
 cases t2:isWd k
 ·rw [show storeF S N s li k v0=(s,(false,[])) by unfold storeF;rw [if_neg (by simp [t2])]]
  go_enter Tryz.func142,Tryz.ntmps142
  try dsimp only [List.append]
  go_wp2_with (first |(go_at_call 177;refine (gline_at _ _ t1 _).mono ?_;rintro e w' ⟨rfl,rfl⟩)|(go_at_call 178;refine (gword_at _ _ t2 _).mono ?_;rintro e w' ⟨rfl,rfl⟩))
  go_ret2
  exact AgRet.nil (f:=fun v=>.tuple #[.bool false,v]) H.out CW.out
 obtain ⟨K,hK,rfl⟩:∃K:Nat,K<8∧k=K:=by simp [isWd] at t2;exact ⟨k.toNat,by omega,by omega⟩
 cases hm:mayWr (findVal s.1 li).st
 ·rw [show storeF S N s li K v0=((reachF S N s li).1,(false,(reachF S N s li).2)) by unfold storeF ownsB;rw [if_pos (by simp [t1,t2]),if_neg (by simp [hm])]]
  generalize findVal s.1 li=x at hf hm
  go_enter Tryz.func142,Tryz.ntmps142
  try dsimp only [List.append]
  go_wp2_with (first |(go_at_call 177;refine (gline_at _ _ t1 _).mono ?_;rintro e w' ⟨rfl,rfl⟩)|(go_at_call 178;refine (gword_at _ _ t2 _).mono ?_;rintro e w' ⟨rfl,rfl⟩))
  refine hf.mono ?_
  clear hf
  rintro e w2 ⟨rfl,c2⟩
  replace H:=Lib.hid (H.out.keep c2)
  replace CW:=Lib.hid (CW.out.trans (weak2 c2))
  clear c2
  have rG:=H.out.2.1
  go_wp2_with fail
  have cb:=(Chg.refl [] w2).alloc (.cells (slc x) 205 (0,0))
  have rX:(w2.alloc (.cells (slc x) 205 (0,0))).heap[w2.heap.size]? =some (.cells (slc x) 205 (0,0)):=by simp
  have nX:=H.out.new2 (k:=w2.heap.size) (Nat.le_refl _)
  have mX:=H.out.new3 (k:=w2.heap.size) (Nat.le_refl _)
  have vX:=H.out.1.1.size
  have uXx:=CW.out.size
  replace H:=Lib.hid (H.out.keep cb)
  replace CW:=Lib.hid (CW.out.trans (weak2 cb))
  clear cb
  generalize w2.heap.size=pX at rX nX mX vX uXx ⊢
  generalize w2.alloc (.cells (slc x) 205 (0,0))=w3 at rX H CW ⊢
  have rG:=H.out.2.1
  have oX:=old rX
  refine (gwrite_at _ _ hm _).mono ?_
  rintro e w' ⟨rfl,rfl⟩
  go_wp2_with fail
  refine (greach_any li w3 H.out hu).mono ?_
  rintro e w5 ⟨A,n,rfl,h1,h2,h3⟩
  go_wp2_with fail
  go_ret2
  exact ⟨A,n,rfl,h1.from CW.out.size,h2,CW.out.trans h3⟩
 ·have e1:storeF S N s li K v0=(setS S N s li 3 ((findVal s.1 li).l.set K v0) (by rw [List.length_set];exact (findVal s.1 li).h),(true,[])):=by
   unfold storeF ownsB;rw [if_pos (by simp [t1,t2]),if_pos hm];rfl
  rw [e1]
  clear e1
  generalize findVal s.1 li=x at hf hm
  have hx8:=x.h
  have hsw:=slc_setWord x K v0 hK
  have hwd:=slc_word x K hK
  have g1:(K:Int)<8:=by omega
  have g0:(0:Int)≤(K:Int):=by omega
  have hl8:(x.l.set K v0).length=8:=by rw [List.length_set];exact x.h
  go_enter Tryz.func142,Tryz.ntmps142
  try dsimp only [List.append]
  go_wp2_with (first |(go_at_call 177;refine (gline_at _ _ t1 _).mono ?_;rintro e w' ⟨rfl,rfl⟩)|(go_at_call 178;refine (gword_at _ _ t2 _).mono ?_;rintro e w' ⟨rfl,rfl⟩))
  refine hf.mono ?_
  clear hf
  rintro e w2 ⟨rfl,c2⟩
  replace H:=Lib.hid (H.out.keep c2)
  replace CW:=Lib.hid (CW.out.trans (weak2 c2))
  clear c2
  have rG:=H.out.2.1
  go_wp2_with fail
  have cb:=(Chg.refl [] w2).alloc (.cells (slc x) 205 (0,0))
  have rX:(w2.alloc (.cells (slc x) 205 (0,0))).heap[w2.heap.size]? =some (.cells (slc x) 205 (0,0)):=by simp
  have nX:=H.out.new2 (k:=w2.heap.size) (Nat.le_refl _)
  have mX:=H.out.new3 (k:=w2.heap.size) (Nat.le_refl _)
  have vX:=H.out.1.1.size
  have uXx:=CW.out.size
  replace H:=Lib.hid (H.out.keep cb)
  replace CW:=Lib.hid (CW.out.trans (weak2 cb))
  clear cb
  generalize w2.heap.size=pX at rX nX mX vX uXx ⊢
  generalize w2.alloc (.cells (slc x) 205 (0,0))=w3 at rX H CW ⊢
  have rG:=H.out.2.1
  have oX:=old rX
  refine (gwrite_at _ _ hm _).mono ?_
  rintro e w' ⟨rfl,rfl⟩
  go_wp2_with fail
  have cb:Chg [pX] w3 (w3.setCell ⟨pX,2+K,none⟩ (.int .u64 v0)):=(Chg.refl [pX] w3).setCell _ _ _ (.inl (by simp))
  have rX2:(w3.setCell ⟨pX,2+K,none⟩ (.int .u64 v0)).heap[pX]? =some (.cells (slc (x.putL (x.l.set K v0) hl8)) 205 (0,0)):=by simp [rX,hsw]
  replace CW:=Lib.hid (CW.out.trans' cb (by simp [uXx]))
  replace H:=Lib.hid (H.out.apart cb mX vX)
  clear cb rX rG hsw hwd
  have rX:=rX2
  clear rX2
  generalize w3.setCell ⟨pX,2+K,none⟩ (.int .u64 v0)=w5 at rX H CW ⊢
  have rG:=H.out.2.1
  have oX:=old rX
  have nG:=H.out.2.2.2.1
  go_region_held3 (fun w'=>w'.heap[g]? =some (.cells #[.pointer (some ⟨a,0,none⟩)] 209 (0,0))∧w'.heap[pX]? =some (.cells (slc (x.putL (x.l.set K v0) hl8)) 205 (0,0))) (first |exact ⟨rG,rX⟩|exact ⟨c4.keep rG nG,c4.keep rX nX⟩)
   (first
    |(go_at_call 106;refine (gset_any (H.out.keep (Chg.drew (Chg.refl [] w5))) hu li 3 (x.l.set K v0) hl8).mono ?_;rintro e w4 ⟨rfl,h4,c4⟩))
  all_goals
   replace H:=Lib.hid h4
   replace CW:=Lib.hid (CW.out.trans (Chg.trans (Chg.drew (Chg.refl [a,b] w5)) c4))
   replace rX:=c4.keep rX nX
   clear h4 c4 rG
   have rG:=H.out.2.1
   go_wp2_with fail
   go_ret2
   exact AgRet.nil (f:=fun v=>.tuple #[.bool true,v]) H.out CW.out
end
section
def tbL:List Value:=((List.range 15).map fun k:Nat=>(List.range 10).map fun j:Nat=>Value.int .i64 (tb k j)).flatten
def TabB (w:World):Prop:=∃t f,w.heap[0]? =some (.cells tbL.toArray t f)
theorem TabB.keep {w w':World} {l:List Nat} (h:TabB w) (hc:Chg l w w') (h0:0∉l):TabB w':=by
 obtain ⟨t,f,h⟩:=h
 exact ⟨t,f,hc.keep h h0⟩
theorem tb_cell (k j:Nat) (hk:k<15) (hj:j<10):tbL.toArray[k*10+j]? =some (.int .i64 (tb k j)):=by
 have h:∀k:Nat,k<15→∀j:Nat,j<10→tbL[k*10+j]? =some (.int .i64 (tb k j)):=by
  intro k hk j hj
  have h1:k=0∨k=1∨k=2∨k=3∨k=4∨k=5∨k=6∨k=7∨k=8∨k=9∨k=10∨k=11∨k=12∨k=13∨k=14:=by omega
  have h2:j=0∨j=1∨j=2∨j=3∨j=4∨j=5∨j=6∨j=7∨j=8∨j=9:=by omega
  rcases h1 with rfl|rfl|rfl|rfl|rfl|rfl|rfl|rfl|rfl|rfl|rfl|rfl|rfl|rfl|rfl<;>rcases h2 with rfl|rfl|rfl|rfl|rfl|rfl|rfl|rfl|rfl|rfl<;>rfl
 rw [List.getElem?_toArray]
 exact h k hk j hj
def Tabs (W:World):Prop:=Tab W∧TabB W
theorem gmgood_at (m:Ms) (b:Bool) (h:mg m=b) (w:World) (ht:Tab w):Calls Tryz.prog 96 #[.agg (msc m)] w fun e w'=>e=.returned (.bool b)∧Chg [] w w':=h▸mgood_any m w ht
theorem gtells_at (k:Int) (b:Bool) (h:tellsB k=b) (w:World):Calls Tryz.prog 103 #[.int .i64 k] w fun e w'=>e=.returned (.bool b)∧w=w':=h▸tells_any k w
theorem snew_at (w:World) (o:Obj):(w.alloc o).heap[w.heap.size]? =some o:=by simp
theorem sput_row {w:World} {r:Nat} {x y:Slt} {t:TypeId} (h:w.heap[r]? =some (.cells (slc y) t (0,0))):(putRow w r 0 (slc x)).heap[r]? =some (.cells (slc x) t (0,0)):=by
 simp [h,slc_size]
theorem AgRet.ms {W w w1 w2:World} {g a b S N:Nat} {s:Sta} {f:Value→Value} {A:Option Addr} {ms:List Ms} {n:Nat} (h:Agt W w1 g a b S N s) (hc:Chg [a,b] w w1) (h1:Told w1 w2 A ms) (c:Chg [] w1 w2):AgRet W w g a b S N s f ms (.returned (f (.slice A ms.length n))) w2:=
 ⟨A,n,rfl,h1.from hc.size,h.keep c,hc.trans (weak2 c)⟩
theorem ghear_args {W:World} {g a b S N:Nat} {s:Sta} (m:Ms) (gg:(mg m&&tellsB m.kd)=false) (w:World) (h:Agt W w g a b S N s) (hu:s.2≤1000000000) (hT:Tabs W):Calls Tryz.prog 60 #[.pointer (some ⟨g,0,none⟩),.agg (msc m)] w (AgRet W w g a b S N (hearF S N s m).1 (fun v=>.tuple #[v,.int .i64 (hearF S N s m).2.2]) (hearF S N s m).2.1):=by
 have H:=Lib.hid h
 have rG:=h.2.1
 have CW:=Lib.hid (Chg.refl [a,b] w)
 clear h
 rw [show hearF S N s m=(s,([],1)) by unfold hearF;rw [if_neg (by simp [gg])]]
 cases g3:mg m
 ·skip
  go_enter Tryz.func60,Tryz.ntmps60
  try dsimp only [List.append]
  go_wp2_with fail
  refine agen_calls1 (w:=w) (b1:=w.heap.size) (x1:=.cells (msc m) 50 (0,0)) (by (repeat' (first |with_reducible exact Chg.refl _ _|with_reducible assumption|with_reducible refine Chg.drew ?_|with_reducible refine Chg.drewN ?_ _|with_reducible refine Chg.alloc ?_ _|with_reducible refine Chg.putRow ?_ _ _ _ (.inr ?_)|with_reducible refine Chg.setCell ?_ _ _ _ (.inr ?_)|(show _≤_;first |exact Nat.le_refl _|omega|(simp;done))))) (by simp [*]) fun w1 C1 rM=>?_
  have oM:=old rM
  refine (gmgood_at m _ g3 w1 (hT.1.keep (H.out.1.1.trans C1) (by simp))).mono ?_
  rintro e w3 ⟨rfl,c3⟩
  replace rM:=c3.keep rM List.not_mem_nil
  have C3:=C1.trans c3
  replace H:=Lib.hid (H.out.keep C3)
  replace CW:=Lib.hid (weak2 (a:=a) (b:=b) C3)
  have nM:=H.out.new2 (k:=w.heap.size)
  clear C1 c3 C3 oM nM
  have rG:=H.out.2.1
  have oM:=old rM
  go_wp2_with (go_at_call 103;refine (gtells_at _ _ g4 _).mono ?_;rintro e w' ⟨rfl,rfl⟩)
  go_ret2
  exact AgRet.nil (f:=fun v=>.tuple #[v,.int .i64 1]) H.out CW.out
 ·have g4:tellsB m.kd=false:=by simpa [g3] using gg
  go_enter Tryz.func60,Tryz.ntmps60
  try dsimp only [List.append]
  go_wp2_with fail
  refine agen_calls1 (w:=w) (b1:=w.heap.size) (x1:=.cells (msc m) 50 (0,0)) (by (repeat' (first |with_reducible exact Chg.refl _ _|with_reducible assumption|with_reducible refine Chg.drew ?_|with_reducible refine Chg.drewN ?_ _|with_reducible refine Chg.alloc ?_ _|with_reducible refine Chg.putRow ?_ _ _ _ (.inr ?_)|with_reducible refine Chg.setCell ?_ _ _ _ (.inr ?_)|(show _≤_;first |exact Nat.le_refl _|omega|(simp;done))))) (by simp [*]) fun w1 C1 rM=>?_
  have oM:=old rM
  refine (gmgood_at m _ g3 w1 (hT.1.keep (H.out.1.1.trans C1) (by simp))).mono ?_
  rintro e w3 ⟨rfl,c3⟩
  replace rM:=c3.keep rM List.not_mem_nil
  have C3:=C1.trans c3
  replace H:=Lib.hid (H.out.keep C3)
  replace CW:=Lib.hid (weak2 (a:=a) (b:=b) C3)
  have nM:=H.out.new2 (k:=w.heap.size)
  clear C1 c3 C3 oM nM
  have rG:=H.out.2.1
  have oM:=old rM
  go_wp2_with (go_at_call 103;refine (gtells_at _ _ g4 _).mono ?_;rintro e w' ⟨rfl,rfl⟩)
  go_ret2
  exact AgRet.nil (f:=fun v=>.tuple #[v,.int .i64 1]) H.out CW.out
set_option maxHeartbeats 4000000 in
theorem ghear_0 {W:World} {g a b S N:Nat} {s:Sta} (m:Ms) (g3:mg m=true) (g4:tellsB m.kd=true) (nx:Int) (hnx:nx=tb m.kd (findVal s.1 m.li).st) (n0:nx=0) (w:World) (h:Agt W w g a b S N s) (hu:s.2≤1000000000) (hT:Tabs W):Calls Tryz.prog 60 #[.pointer (some ⟨g,0,none⟩),.agg (msc m)] w (AgRet W w g a b S N (hearF S N s m).1 (fun v=>.tuple #[v,.int .i64 (hearF S N s m).2.2]) (hearF S N s m).2.1):=by
 have H:=Lib.hid h
 have rG:=h.2.1
 have CW:=Lib.hid (Chg.refl [a,b] w)
 clear h
 have HN:=Lib.hid (H.out.new2 (k:=w.heap.size) (Nat.le_refl _))
 have hf:=fun W' hW=>gfind_any (w:=W') (s:=s) (W:=W) (g:=g) (a:=a) (b:=b) (S:=S) (N:=N) hW m.li
 have hsa:=find_sane H.out.sane m.li
 have hg:(mg m&&tellsB m.kd)=true:=by simp [g3,g4]
 rw [show hearF S N s m=(s,([],16)) by unfold hearF;rw [if_pos hg,←hnx,if_pos n0]]
 have n0':(nx==0)=true:=by simp [n0]
 clear hg n0
 generalize findVal s.1 m.li=x at hf hnx hsa
 go_enter Tryz.func60,Tryz.ntmps60
 try dsimp only [List.append]
 go_wp2_with fail
 refine agen_calls1 (w:=w) (b1:=w.heap.size) (x1:=.cells (msc m) 50 (0,0)) (by (repeat' (first |with_reducible exact Chg.refl _ _|with_reducible assumption|with_reducible refine Chg.drew ?_|with_reducible refine Chg.drewN ?_ _|with_reducible refine Chg.alloc ?_ _|with_reducible refine Chg.putRow ?_ _ _ _ (.inr ?_)|with_reducible refine Chg.setCell ?_ _ _ _ (.inr ?_)|(show _≤_;first |exact Nat.le_refl _|omega|(simp;done))))) (by simp [*]) fun w1 C1 rM=>?_
 have oM:=old rM
 refine (gmgood_at m _ g3 w1 (hT.1.keep (H.out.1.1.trans C1) (by simp))).mono ?_
 rintro e w3 ⟨rfl,c3⟩
 replace rM:=c3.keep rM List.not_mem_nil
 have C3:=C1.trans c3
 replace H:=Lib.hid (H.out.keep C3)
 replace CW:=Lib.hid (weak2 (a:=a) (b:=b) C3)
 have nM:=H.out.new2 (k:=w.heap.size)
 clear C1 c3 C3 oM nM
 have rG:=H.out.2.1
 have oM:=old rM
 go_upto_region 3 with (go_at_call 103;refine (gtells_at _ _ g4 _).mono ?_;rintro e w' ⟨rfl,rfl⟩)
 go_cut [6,7] (fun p q wx=>∃pX,p=.pointer (some ⟨pX,0,none⟩)∧q=.bool (dropVal s.1 m.li)∧wx.heap[pX]? =some (.cells (slc x) 205 (0,0))∧Chg [] w3 wx∧w3.heap.size≤pX)
 case first=>
  go_region_held3 (fun w'=>w'.heap[g]? =some (.cells #[.pointer (some ⟨a,0,none⟩)] 209 (0,0))∧w'.heap[w.heap.size]? =some (.cells (msc m) 50 (0,0))) (exact ⟨Chg.keep (l:=[]) (w:=w3) (by (repeat' (first |with_reducible exact cO|with_reducible exact Chg.refl _ _|with_reducible refine Chg.alloc ?_ _|with_reducible refine Chg.drew ?_|with_reducible refine Chg.putRow ?_ _ _ _ (.inr ?_)|with_reducible exact Chg.size cO|with_reducible exact Nat.le_refl _))) rG (by simp),Chg.keep (l:=[]) (w:=w3) (by (repeat' (first |with_reducible exact cO|with_reducible exact Chg.refl _ _|with_reducible refine Chg.alloc ?_ _|with_reducible refine Chg.drew ?_|with_reducible refine Chg.putRow ?_ _ _ _ (.inr ?_)|with_reducible exact Chg.size cO|with_reducible exact Nat.le_refl _))) rM (by simp)⟩)
   (first
    |(go_at_call 104;refine (hf _ (H.out.keep (by first |exact Chg.drew (Chg.refl [] w3)|exact Chg.alloc (Chg.drew (Chg.refl [] w3)) _))).mono ?_;rintro e w4 ⟨rfl,c4⟩;(first |(have cO:Chg [] w3 w4:=Chg.trans (Chg.drew (Chg.refl [] w3)) c4)|(have cO:Chg [] w3 w4:=Chg.trans (Chg.alloc (Chg.drew (Chg.refl [] w3)) _) c4));(first |(have rZ:w4.heap[w3.heap.size]? =some (.cells (slc sltZ) 205 (0,0)):=c4.keep (snew_at w3.drew _) List.not_mem_nil)|(have rZ:True:=trivial))))
  all_goals
   go_wp2_with fail
   go_meet
   case rel=>
    first
     |exact ⟨_,rfl,rfl,by simp,cO.alloc _,cO.size⟩
     |exact ⟨w3.heap.size,rfl,rfl,sput_row rZ,cO.putRow _ _ _ (.inr (Nat.le_refl _)),Nat.le_refl _⟩
 case rest=>
 obtain ⟨pX,rfl,rfl,rX,c5,lX⟩:=hcut
 have nX:=H.out.new2 lX
 generalize hw5:wc=w5 at *
 clear hw5
 replace rM:=c5.keep rM List.not_mem_nil
 have nM:w.heap.size∉[a,b]:=HN.out
 replace H:=Lib.hid (H.out.keep c5)
 replace CW:=Lib.hid (CW.out.trans (weak2 c5))
 clear c5
 have rG:=H.out.2.1
 have oM:=old rM
 have oX:=old rX
 have nG:=H.out.2.2.2.1
 obtain ⟨Kd,hKd,hKd2⟩:∃K:Nat,K<15∧m.kd=K:=by simp [tellsB] at g4;exact ⟨m.kd.toNat,by omega,by omega⟩
 obtain ⟨Ks,hKs,hKs2⟩:∃K:Nat,K<10∧x.st=K:=⟨x.st.toNat,by omega,by omega⟩
 have hcell:=tb_cell Kd Ks hKd hKs
 rw [←hKd2,←hKs2,←hnx] at hcell
 clear hnx
 obtain ⟨tT,fT,rT⟩:=hT.2.keep H.out.1.1 (by simp)
 have k1:(Kd:Int)<15:=by omega
 have k2:(Ks:Int)<10:=by omega
 have k3:(0:Int)≤(Kd:Int):=by omega
 have k4:(0:Int)≤(Ks:Int):=by omega
 go_wp2_with fail
 go_quiet (fail)
 go_wp2_with fail
 go_ret2
 exact AgRet.nil (f:=fun v=>.tuple #[v,.int .i64 16]) (H.out.keep (Chg.drewN (Chg.refl [] w5) _)) (CW.out.trans (Chg.drewN (Chg.refl [a,b] w5) _))
set_option maxHeartbeats 4000000 in
theorem ghear_10 {W:World} {g a b S N:Nat} {s:Sta} (m:Ms) (g3:mg m=true) (g4:tellsB m.kd=true) (nx:Int) (hnx:nx=tb m.kd (findVal s.1 m.li).st) (n10:nx=10) (w:World) (h:Agt W w g a b S N s) (hu:s.2≤1000000000) (hT:Tabs W):Calls Tryz.prog 60 #[.pointer (some ⟨g,0,none⟩),.agg (msc m)] w (AgRet W w g a b S N (hearF S N s m).1 (fun v=>.tuple #[v,.int .i64 (hearF S N s m).2.2]) (hearF S N s m).2.1):=by
 have H:=Lib.hid h
 have rG:=h.2.1
 have CW:=Lib.hid (Chg.refl [a,b] w)
 clear h
 have HN:=Lib.hid (H.out.new2 (k:=w.heap.size) (Nat.le_refl _))
 have hf:=fun W' hW=>gfind_any (w:=W') (s:=s) (W:=W) (g:=g) (a:=a) (b:=b) (S:=S) (N:=N) hW m.li
 have hsa:=find_sane H.out.sane m.li
 have hg:(mg m&&tellsB m.kd)=true:=by simp [g3,g4]
 have n0:¬nx=0:=by omega
 rw [show hearF S N s m=(hearX S N s m nx,(answersL m.kd (findVal s.1 m.li) nx,0)) by unfold hearF;rw [if_pos hg,←hnx,if_neg n0]]
 have n0':(nx==0)=false:=by simp [n0]
 have n1':(nx==10)=true:=by simp [n10]
 rw [show hearX S N s m nx=dropS s m.li by unfold hearX;rw [if_pos n10]]
 clear hg n0 n10
 generalize findVal s.1 m.li=x at hf hnx hsa
 go_enter Tryz.func60,Tryz.ntmps60
 try dsimp only [List.append]
 go_wp2_with fail
 refine agen_calls1 (w:=w) (b1:=w.heap.size) (x1:=.cells (msc m) 50 (0,0)) (by (repeat' (first |with_reducible exact Chg.refl _ _|with_reducible assumption|with_reducible refine Chg.drew ?_|with_reducible refine Chg.drewN ?_ _|with_reducible refine Chg.alloc ?_ _|with_reducible refine Chg.putRow ?_ _ _ _ (.inr ?_)|with_reducible refine Chg.setCell ?_ _ _ _ (.inr ?_)|(show _≤_;first |exact Nat.le_refl _|omega|(simp;done))))) (by simp [*]) fun w1 C1 rM=>?_
 have oM:=old rM
 refine (gmgood_at m _ g3 w1 (hT.1.keep (H.out.1.1.trans C1) (by simp))).mono ?_
 rintro e w3 ⟨rfl,c3⟩
 replace rM:=c3.keep rM List.not_mem_nil
 have C3:=C1.trans c3
 replace H:=Lib.hid (H.out.keep C3)
 replace CW:=Lib.hid (weak2 (a:=a) (b:=b) C3)
 have nM:=H.out.new2 (k:=w.heap.size)
 clear C1 c3 C3 oM nM
 have rG:=H.out.2.1
 have oM:=old rM
 go_upto_region 3 with (go_at_call 103;refine (gtells_at _ _ g4 _).mono ?_;rintro e w' ⟨rfl,rfl⟩)
 go_cut [6,7] (fun p q wx=>∃pX,p=.pointer (some ⟨pX,0,none⟩)∧q=.bool (dropVal s.1 m.li)∧wx.heap[pX]? =some (.cells (slc x) 205 (0,0))∧Chg [] w3 wx∧w3.heap.size≤pX)
 case first=>
  go_region_held3 (fun w'=>w'.heap[g]? =some (.cells #[.pointer (some ⟨a,0,none⟩)] 209 (0,0))∧w'.heap[w.heap.size]? =some (.cells (msc m) 50 (0,0))) (exact ⟨Chg.keep (l:=[]) (w:=w3) (by (repeat' (first |with_reducible exact cO|with_reducible exact Chg.refl _ _|with_reducible refine Chg.alloc ?_ _|with_reducible refine Chg.drew ?_|with_reducible refine Chg.putRow ?_ _ _ _ (.inr ?_)|with_reducible exact Chg.size cO|with_reducible exact Nat.le_refl _))) rG (by simp),Chg.keep (l:=[]) (w:=w3) (by (repeat' (first |with_reducible exact cO|with_reducible exact Chg.refl _ _|with_reducible refine Chg.alloc ?_ _|with_reducible refine Chg.drew ?_|with_reducible refine Chg.putRow ?_ _ _ _ (.inr ?_)|with_reducible exact Chg.size cO|with_reducible exact Nat.le_refl _))) rM (by simp)⟩)
   (first
    |(go_at_call 104;refine (hf _ (H.out.keep (by first |exact Chg.drew (Chg.refl [] w3)|exact Chg.alloc (Chg.drew (Chg.refl [] w3)) _))).mono ?_;rintro e w4 ⟨rfl,c4⟩;(first |(have cO:Chg [] w3 w4:=Chg.trans (Chg.drew (Chg.refl [] w3)) c4)|(have cO:Chg [] w3 w4:=Chg.trans (Chg.alloc (Chg.drew (Chg.refl [] w3)) _) c4));(first |(have rZ:w4.heap[w3.heap.size]? =some (.cells (slc sltZ) 205 (0,0)):=c4.keep (snew_at w3.drew _) List.not_mem_nil)|(have rZ:True:=trivial))))
  all_goals
   go_wp2_with fail
   go_meet
   case rel=>
    first
     |exact ⟨_,rfl,rfl,by simp,cO.alloc _,cO.size⟩
     |exact ⟨w3.heap.size,rfl,rfl,sput_row rZ,cO.putRow _ _ _ (.inr (Nat.le_refl _)),Nat.le_refl _⟩
 case rest=>
 obtain ⟨pX,rfl,rfl,rX,c5,lX⟩:=hcut
 have nX:=H.out.new2 lX
 generalize hw5:wc=w5 at *
 clear hw5
 replace rM:=c5.keep rM List.not_mem_nil
 have nM:w.heap.size∉[a,b]:=HN.out
 replace H:=Lib.hid (H.out.keep c5)
 replace CW:=Lib.hid (CW.out.trans (weak2 c5))
 clear c5
 have rG:=H.out.2.1
 have oM:=old rM
 have oX:=old rX
 have nG:=H.out.2.2.2.1
 obtain ⟨Kd,hKd,hKd2⟩:∃K:Nat,K<15∧m.kd=K:=by simp [tellsB] at g4;exact ⟨m.kd.toNat,by omega,by omega⟩
 obtain ⟨Ks,hKs,hKs2⟩:∃K:Nat,K<10∧x.st=K:=⟨x.st.toNat,by omega,by omega⟩
 have hcell:=tb_cell Kd Ks hKd hKs
 rw [←hKd2,←hKs2,←hnx] at hcell
 clear hnx
 obtain ⟨tT,fT,rT⟩:=hT.2.keep H.out.1.1 (by simp)
 have k1:(Kd:Int)<15:=by omega
 have k2:(Ks:Int)<10:=by omega
 have k3:(0:Int)≤(Kd:Int):=by omega
 have k4:(0:Int)≤(Ks:Int):=by omega
 go_wp2_with fail
 go_quiet (fail)
 clear hKd2 hKs2
 have cD:Chg [] w5 (w5.drewN nq):=Chg.drewN (Chg.refl [] w5) nq
 generalize w5.drewN nq=w6 at cD ⊢
 replace H:=Lib.hid (H.out.keep cD)
 replace CW:=Lib.hid (CW.out.trans (weak2 cD))
 replace rM:=cD.keep rM List.not_mem_nil
 replace rX:=cD.keep rX List.not_mem_nil
 clear cD
 have rG:=H.out.2.1
 have oM:=old rM
 have oX:=old rX
 clear rT
 go_wp2_with fail
 go_region_held3 (fun w'=>w'.heap[g]? =some (.cells #[.pointer (some ⟨a,0,none⟩)] 209 (0,0))∧w'.heap[w.heap.size]? =some (.cells (msc m) 50 (0,0))∧w'.heap[pX]? =some (.cells (slc x) 205 (0,0))) (first |exact ⟨rG,rM,rX⟩|exact ⟨c8.keep rG List.not_mem_nil,c8.keep rM List.not_mem_nil,c8.keep rX List.not_mem_nil⟩|exact ⟨c4.keep rG nG,c4.keep rM nM,c4.keep rX nX⟩|exact ⟨c4.keep (c8.keep rG List.not_mem_nil) nG,c4.keep (c8.keep rM List.not_mem_nil) nM,c4.keep (c8.keep rX List.not_mem_nil) nX⟩)
  (first
   |(go_at_call 105;refine (gdrop_any (H.out.keep (Chg.drew (Chg.refl [] w6))) m.li).mono ?_;rintro e w4 ⟨rfl,h4,c4⟩))
 all_goals
  have cT:=Chg.trans (Chg.drew (Chg.refl [a,b] w6)) c4
  replace H:=Lib.hid h4
  replace CW:=Lib.hid (CW.out.trans cT)
  replace rX:=cT.keep rX nX
  replace rM:=cT.keep rM nM
  clear h4 c4 rG cT
  have rG:=H.out.2.1
  go_wp2_with fail
  refine (ganswers_any _ x nx _).mono ?_
  rintro e w9 ⟨A,n,rfl,h1,c9⟩
  go_wp2_with fail
  go_ret2
  exact AgRet.ms (f:=fun v=>.tuple #[v,.int .i64 0]) H.out CW.out h1 c9
set_option maxHeartbeats 4000000 in
theorem ghear_11 {W:World} {g a b S N:Nat} {s:Sta} (m:Ms) (g3:mg m=true) (g4:tellsB m.kd=true) (nx:Int) (hnx:nx=tb m.kd (findVal s.1 m.li).st) (n11:nx=11) (w:World) (h:Agt W w g a b S N s) (hu:s.2≤1000000000) (hT:Tabs W):Calls Tryz.prog 60 #[.pointer (some ⟨g,0,none⟩),.agg (msc m)] w (AgRet W w g a b S N (hearF S N s m).1 (fun v=>.tuple #[v,.int .i64 (hearF S N s m).2.2]) (hearF S N s m).2.1):=by
 have H:=Lib.hid h
 have rG:=h.2.1
 have CW:=Lib.hid (Chg.refl [a,b] w)
 clear h
 have HN:=Lib.hid (H.out.new2 (k:=w.heap.size) (Nat.le_refl _))
 have hf:=fun W' hW=>gfind_any (w:=W') (s:=s) (W:=W) (g:=g) (a:=a) (b:=b) (S:=S) (N:=N) hW m.li
 have hsa:=find_sane H.out.sane m.li
 have hg:(mg m&&tellsB m.kd)=true:=by simp [g3,g4]
 have n0:¬nx=0:=by omega
 rw [show hearF S N s m=(hearX S N s m nx,(answersL m.kd (findVal s.1 m.li) nx,0)) by unfold hearF;rw [if_pos hg,←hnx,if_neg n0]]
 have n0':(nx==0)=false:=by simp [n0]
 have n1':(nx==10)=false:=by simp;omega
 have n2':(nx==11)=true:=by simp [n11]
 rw [show hearX S N s m nx=s by unfold hearX;rw [if_neg (by omega),if_pos n11]]
 clear hg n0 n11
 generalize findVal s.1 m.li=x at hf hnx hsa
 go_enter Tryz.func60,Tryz.ntmps60
 try dsimp only [List.append]
 go_wp2_with fail
 refine agen_calls1 (w:=w) (b1:=w.heap.size) (x1:=.cells (msc m) 50 (0,0)) (by (repeat' (first |with_reducible exact Chg.refl _ _|with_reducible assumption|with_reducible refine Chg.drew ?_|with_reducible refine Chg.drewN ?_ _|with_reducible refine Chg.alloc ?_ _|with_reducible refine Chg.putRow ?_ _ _ _ (.inr ?_)|with_reducible refine Chg.setCell ?_ _ _ _ (.inr ?_)|(show _≤_;first |exact Nat.le_refl _|omega|(simp;done))))) (by simp [*]) fun w1 C1 rM=>?_
 have oM:=old rM
 refine (gmgood_at m _ g3 w1 (hT.1.keep (H.out.1.1.trans C1) (by simp))).mono ?_
 rintro e w3 ⟨rfl,c3⟩
 replace rM:=c3.keep rM List.not_mem_nil
 have C3:=C1.trans c3
 replace H:=Lib.hid (H.out.keep C3)
 replace CW:=Lib.hid (weak2 (a:=a) (b:=b) C3)
 have nM:=H.out.new2 (k:=w.heap.size)
 clear C1 c3 C3 oM nM
 have rG:=H.out.2.1
 have oM:=old rM
 go_upto_region 3 with (go_at_call 103;refine (gtells_at _ _ g4 _).mono ?_;rintro e w' ⟨rfl,rfl⟩)
 go_cut [6,7] (fun p q wx=>∃pX,p=.pointer (some ⟨pX,0,none⟩)∧q=.bool (dropVal s.1 m.li)∧wx.heap[pX]? =some (.cells (slc x) 205 (0,0))∧Chg [] w3 wx∧w3.heap.size≤pX)
 case first=>
  go_region_held3 (fun w'=>w'.heap[g]? =some (.cells #[.pointer (some ⟨a,0,none⟩)] 209 (0,0))∧w'.heap[w.heap.size]? =some (.cells (msc m) 50 (0,0))) (exact ⟨Chg.keep (l:=[]) (w:=w3) (by (repeat' (first |with_reducible exact cO|with_reducible exact Chg.refl _ _|with_reducible refine Chg.alloc ?_ _|with_reducible refine Chg.drew ?_|with_reducible refine Chg.putRow ?_ _ _ _ (.inr ?_)|with_reducible exact Chg.size cO|with_reducible exact Nat.le_refl _))) rG (by simp),Chg.keep (l:=[]) (w:=w3) (by (repeat' (first |with_reducible exact cO|with_reducible exact Chg.refl _ _|with_reducible refine Chg.alloc ?_ _|with_reducible refine Chg.drew ?_|with_reducible refine Chg.putRow ?_ _ _ _ (.inr ?_)|with_reducible exact Chg.size cO|with_reducible exact Nat.le_refl _))) rM (by simp)⟩)
   (first
    |(go_at_call 104;refine (hf _ (H.out.keep (by first |exact Chg.drew (Chg.refl [] w3)|exact Chg.alloc (Chg.drew (Chg.refl [] w3)) _))).mono ?_;rintro e w4 ⟨rfl,c4⟩;(first |(have cO:Chg [] w3 w4:=Chg.trans (Chg.drew (Chg.refl [] w3)) c4)|(have cO:Chg [] w3 w4:=Chg.trans (Chg.alloc (Chg.drew (Chg.refl [] w3)) _) c4));(first |(have rZ:w4.heap[w3.heap.size]? =some (.cells (slc sltZ) 205 (0,0)):=c4.keep (snew_at w3.drew _) List.not_mem_nil)|(have rZ:True:=trivial))))
  all_goals
   go_wp2_with fail
   go_meet
   case rel=>
    first
     |exact ⟨_,rfl,rfl,by simp,cO.alloc _,cO.size⟩
     |exact ⟨w3.heap.size,rfl,rfl,sput_row rZ,cO.putRow _ _ _ (.inr (Nat.le_refl _)),Nat.le_refl _⟩
 case rest=>
 obtain ⟨pX,rfl,rfl,rX,c5,lX⟩:=hcut
 have nX:=H.out.new2 lX
 generalize hw5:wc=w5 at *
 clear hw5
 replace rM:=c5.keep rM List.not_mem_nil
 have nM:w.heap.size∉[a,b]:=HN.out
 replace H:=Lib.hid (H.out.keep c5)
 replace CW:=Lib.hid (CW.out.trans (weak2 c5))
 clear c5
 have rG:=H.out.2.1
 have oM:=old rM
 have oX:=old rX
 have nG:=H.out.2.2.2.1
 obtain ⟨Kd,hKd,hKd2⟩:∃K:Nat,K<15∧m.kd=K:=by simp [tellsB] at g4;exact ⟨m.kd.toNat,by omega,by omega⟩
 obtain ⟨Ks,hKs,hKs2⟩:∃K:Nat,K<10∧x.st=K:=⟨x.st.toNat,by omega,by omega⟩
 have hcell:=tb_cell Kd Ks hKd hKs
 rw [←hKd2,←hKs2,←hnx] at hcell
 clear hnx
 obtain ⟨tT,fT,rT⟩:=hT.2.keep H.out.1.1 (by simp)
 have k1:(Kd:Int)<15:=by omega
 have k2:(Ks:Int)<10:=by omega
 have k3:(0:Int)≤(Kd:Int):=by omega
 have k4:(0:Int)≤(Ks:Int):=by omega
 go_wp2_with fail
 go_quiet (fail)
 clear hKd2 hKs2
 have cD:Chg [] w5 (w5.drewN nq):=Chg.drewN (Chg.refl [] w5) nq
 generalize w5.drewN nq=w6 at cD ⊢
 replace H:=Lib.hid (H.out.keep cD)
 replace CW:=Lib.hid (CW.out.trans (weak2 cD))
 replace rM:=cD.keep rM List.not_mem_nil
 replace rX:=cD.keep rX List.not_mem_nil
 clear cD
 have rG:=H.out.2.1
 have oM:=old rM
 have oX:=old rX
 clear rT
 go_wp2_with fail
 refine (ganswers_any _ x nx _).mono ?_
 rintro e w9 ⟨A,n,rfl,h1,c9⟩
 go_wp2_with fail
 go_ret2
 exact AgRet.ms (f:=fun v=>.tuple #[v,.int .i64 0]) H.out CW.out h1 c9
set_option maxHeartbeats 4000000 in
theorem ghear_s {W:World} {g a b S N:Nat} {s:Sta} (m:Ms) (g3:mg m=true) (g4:tellsB m.kd=true) (nx:Int) (hnx:nx=tb m.kd (findVal s.1 m.li).st) (n0:¬nx=0) (n10:¬nx=10) (n11:¬nx=11) (w:World) (h:Agt W w g a b S N s) (hu:s.2≤1000000000) (hT:Tabs W):Calls Tryz.prog 60 #[.pointer (some ⟨g,0,none⟩),.agg (msc m)] w (AgRet W w g a b S N (hearF S N s m).1 (fun v=>.tuple #[v,.int .i64 (hearF S N s m).2.2]) (hearF S N s m).2.1):=by
 have H:=Lib.hid h
 have rG:=h.2.1
 have CW:=Lib.hid (Chg.refl [a,b] w)
 clear h
 have HN:=Lib.hid (H.out.new2 (k:=w.heap.size) (Nat.le_refl _))
 have hf:=fun W' hW=>gfind_any (w:=W') (s:=s) (W:=W) (g:=g) (a:=a) (b:=b) (S:=S) (N:=N) hW m.li
 have hsa:=find_sane H.out.sane m.li
 have hg:(mg m&&tellsB m.kd)=true:=by simp [g3,g4]
 rw [show hearF S N s m=(hearX S N s m nx,(answersL m.kd (findVal s.1 m.li) nx,0)) by unfold hearF;rw [if_pos hg,←hnx,if_neg n0]]
 have n0':(nx==0)=false:=by simp [n0]
 have n1':(nx==10)=false:=by simp [n10]
 have n2':(nx==11)=false:=by simp [n11]
 have e1:hearX S N s m nx=setS S N s m.li nx (wordsL m (findVal s.1 m.li) nx) (wordsL_len _ _ _):=by unfold hearX;rw [if_neg n10,if_neg n11]
 rw [e1]
 clear e1 hg n0 n10 n11
 generalize findVal s.1 m.li=x at hf hnx hsa
 go_enter Tryz.func60,Tryz.ntmps60
 try dsimp only [List.append]
 go_wp2_with fail
 refine agen_calls1 (w:=w) (b1:=w.heap.size) (x1:=.cells (msc m) 50 (0,0)) (by (repeat' (first |with_reducible exact Chg.refl _ _|with_reducible assumption|with_reducible refine Chg.drew ?_|with_reducible refine Chg.drewN ?_ _|with_reducible refine Chg.alloc ?_ _|with_reducible refine Chg.putRow ?_ _ _ _ (.inr ?_)|with_reducible refine Chg.setCell ?_ _ _ _ (.inr ?_)|(show _≤_;first |exact Nat.le_refl _|omega|(simp;done))))) (by simp [*]) fun w1 C1 rM=>?_
 have oM:=old rM
 refine (gmgood_at m _ g3 w1 (hT.1.keep (H.out.1.1.trans C1) (by simp))).mono ?_
 rintro e w3 ⟨rfl,c3⟩
 replace rM:=c3.keep rM List.not_mem_nil
 have C3:=C1.trans c3
 replace H:=Lib.hid (H.out.keep C3)
 replace CW:=Lib.hid (weak2 (a:=a) (b:=b) C3)
 have nM:=H.out.new2 (k:=w.heap.size)
 clear C1 c3 C3 oM nM
 have rG:=H.out.2.1
 have oM:=old rM
 go_upto_region 3 with (go_at_call 103;refine (gtells_at _ _ g4 _).mono ?_;rintro e w' ⟨rfl,rfl⟩)
 go_cut [6,7] (fun p q wx=>∃pX,p=.pointer (some ⟨pX,0,none⟩)∧q=.bool (dropVal s.1 m.li)∧wx.heap[pX]? =some (.cells (slc x) 205 (0,0))∧Chg [] w3 wx∧w3.heap.size≤pX)
 case first=>
  go_region_held3 (fun w'=>w'.heap[g]? =some (.cells #[.pointer (some ⟨a,0,none⟩)] 209 (0,0))∧w'.heap[w.heap.size]? =some (.cells (msc m) 50 (0,0))) (exact ⟨Chg.keep (l:=[]) (w:=w3) (by (repeat' (first |with_reducible exact cO|with_reducible exact Chg.refl _ _|with_reducible refine Chg.alloc ?_ _|with_reducible refine Chg.drew ?_|with_reducible refine Chg.putRow ?_ _ _ _ (.inr ?_)|with_reducible exact Chg.size cO|with_reducible exact Nat.le_refl _))) rG (by simp),Chg.keep (l:=[]) (w:=w3) (by (repeat' (first |with_reducible exact cO|with_reducible exact Chg.refl _ _|with_reducible refine Chg.alloc ?_ _|with_reducible refine Chg.drew ?_|with_reducible refine Chg.putRow ?_ _ _ _ (.inr ?_)|with_reducible exact Chg.size cO|with_reducible exact Nat.le_refl _))) rM (by simp)⟩)
   (first
    |(go_at_call 104;refine (hf _ (H.out.keep (by first |exact Chg.drew (Chg.refl [] w3)|exact Chg.alloc (Chg.drew (Chg.refl [] w3)) _))).mono ?_;rintro e w4 ⟨rfl,c4⟩;(first |(have cO:Chg [] w3 w4:=Chg.trans (Chg.drew (Chg.refl [] w3)) c4)|(have cO:Chg [] w3 w4:=Chg.trans (Chg.alloc (Chg.drew (Chg.refl [] w3)) _) c4));(first |(have rZ:w4.heap[w3.heap.size]? =some (.cells (slc sltZ) 205 (0,0)):=c4.keep (snew_at w3.drew _) List.not_mem_nil)|(have rZ:True:=trivial))))
  all_goals
   go_wp2_with fail
   go_meet
   case rel=>
    first
     |exact ⟨_,rfl,rfl,by simp,cO.alloc _,cO.size⟩
     |exact ⟨w3.heap.size,rfl,rfl,sput_row rZ,cO.putRow _ _ _ (.inr (Nat.le_refl _)),Nat.le_refl _⟩
 case rest=>
 obtain ⟨pX,rfl,rfl,rX,c5,lX⟩:=hcut
 have nX:=H.out.new2 lX
 generalize hw5:wc=w5 at *
 clear hw5
 replace rM:=c5.keep rM List.not_mem_nil
 have nM:w.heap.size∉[a,b]:=HN.out
 replace H:=Lib.hid (H.out.keep c5)
 replace CW:=Lib.hid (CW.out.trans (weak2 c5))
 clear c5
 have rG:=H.out.2.1
 have oM:=old rM
 have oX:=old rX
 have nG:=H.out.2.2.2.1
 obtain ⟨Kd,hKd,hKd2⟩:∃K:Nat,K<15∧m.kd=K:=by simp [tellsB] at g4;exact ⟨m.kd.toNat,by omega,by omega⟩
 obtain ⟨Ks,hKs,hKs2⟩:∃K:Nat,K<10∧x.st=K:=⟨x.st.toNat,by omega,by omega⟩
 have hcell:=tb_cell Kd Ks hKd hKs
 rw [←hKd2,←hKs2,←hnx] at hcell
 clear hnx
 obtain ⟨tT,fT,rT⟩:=hT.2.keep H.out.1.1 (by simp)
 have k1:(Kd:Int)<15:=by omega
 have k2:(Ks:Int)<10:=by omega
 have k3:(0:Int)≤(Kd:Int):=by omega
 have k4:(0:Int)≤(Ks:Int):=by omega
 go_wp2_with fail
 go_quiet (fail)
 clear hKd2 hKs2
 have cD:Chg [] w5 (w5.drewN nq):=Chg.drewN (Chg.refl [] w5) nq
 generalize w5.drewN nq=w6 at cD ⊢
 replace H:=Lib.hid (H.out.keep cD)
 replace CW:=Lib.hid (CW.out.trans (weak2 cD))
 replace rM:=cD.keep rM List.not_mem_nil
 replace rX:=cD.keep rX List.not_mem_nil
 clear cD
 have rG:=H.out.2.1
 have oM:=old rM
 have oX:=old rX
 clear rT
 go_wp2_with fail
 go_region_held3 (fun w'=>w'.heap[g]? =some (.cells #[.pointer (some ⟨a,0,none⟩)] 209 (0,0))∧w'.heap[w.heap.size]? =some (.cells (msc m) 50 (0,0))∧w'.heap[pX]? =some (.cells (slc x) 205 (0,0))) (first |exact ⟨rG,rM,rX⟩|exact ⟨c8.keep rG List.not_mem_nil,c8.keep rM List.not_mem_nil,c8.keep rX List.not_mem_nil⟩|exact ⟨c4.keep rG nG,c4.keep rM nM,c4.keep rX nX⟩|exact ⟨c4.keep (c8.keep rG List.not_mem_nil) nG,c4.keep (c8.keep rM List.not_mem_nil) nM,c4.keep (c8.keep rX List.not_mem_nil) nX⟩)
  (first
   |(go_at_call 107;refine (gwords_any m x nx _).mono ?_;rintro e w8 ⟨rfl,c8⟩)
   |(go_at_call 106;refine (gset_any (H.out.keep (Chg.trans (Chg.drew (Chg.refl [] w6)) c8)) hu m.li nx _ (wordsL_len m x nx)).mono ?_;rintro e w4 ⟨rfl,h4,c4⟩))
 all_goals
  have cT:=Chg.trans (weak2 (Chg.trans (Chg.drew (Chg.refl [] w6)) c8)) c4
  replace H:=Lib.hid h4
  replace CW:=Lib.hid (CW.out.trans cT)
  replace rX:=cT.keep rX nX
  replace rM:=cT.keep rM nM
  clear h4 c4 rG cT
  have rG:=H.out.2.1
  go_wp2_with fail
  refine (ganswers_any _ x nx _).mono ?_
  rintro e w9 ⟨A,n,rfl,h1,c9⟩
  go_wp2_with fail
  go_ret2
  exact AgRet.ms (f:=fun v=>.tuple #[v,.int .i64 0]) H.out CW.out h1 c9
theorem ghear_any {W:World} {g a b S N:Nat} {s:Sta} (m:Ms) (w:World) (h:Agt W w g a b S N s) (hu:s.2≤1000000000) (hT:Tabs W):Calls Tryz.prog 60 #[.pointer (some ⟨g,0,none⟩),.agg (msc m)] w (AgRet W w g a b S N (hearF S N s m).1 (fun v=>.tuple #[v,.int .i64 (hearF S N s m).2.2]) (hearF S N s m).2.1):=by
 cases gg:(mg m&&tellsB m.kd)
 ·exact ghear_args m gg w h hu hT
 ·have g':=gg
  rw [Bool.and_eq_true] at g'
  by_cases n0:tb m.kd (findVal s.1 m.li).st=0
  ·exact ghear_0 m g'.1 g'.2 _ rfl n0 w h hu hT
  by_cases n10:tb m.kd (findVal s.1 m.li).st=10
  ·exact ghear_10 m g'.1 g'.2 _ rfl n10 w h hu hT
  by_cases n11:tb m.kd (findVal s.1 m.li).st=11
  ·exact ghear_11 m g'.1 g'.2 _ rfl n11 w h hu hT
  ·exact ghear_s m g'.1 g'.2 _ rfl n0 n10 n11 w h hu hT
end
section
def Tol (a b:Nat) (w:World) (A:Option Addr) (ms:List Ms):Prop:=Sl w 12 A ms.length (cat Ms.enc ms)∧∀x,A=some x→x.block∉[a,b]
section
variable {a b:Nat} {w w':World} {A:Option Addr} {ms:List Ms}
theorem Tol.keep (h:Tol a b w A ms) (hc:Chg [a,b] w w'):Tol a b w' A ms:=⟨h.1.chg hc h.2,h.2⟩
end
theorem gnew_ok (S N:Nat) (W w:World) (hc:Chg [] W w) (h:goodNew S N):Calls Tryz.prog 71 #[.int .i64 S,.int .i64 N] w fun e w'=>∃g a b,e=.returned (.tuple #[.pointer (some ⟨g,0,none⟩),.int .i64 0])∧Agt W w' g a b S N (List.replicate (S*N) sltZ,0)∧Chg [] w w':=by
 go_enter Tryz.func71,Tryz.ntmps71
 try dsimp only [List.append]
 go_wp2_with fail
 refine (sys_new S N W w hc h).mono ?_
 rintro e w2 ⟨a,b,rfl,hs,c2⟩
 have HS:=Lib.hid hs
 have HC:=Lib.hid c2
 clear hs c2
 go_wp2_with fail
 go_ret2
 refine ⟨w2.heap.size,a,b,rfl,⟨HS.out.keep ((Chg.refl [] w2).alloc _),by simp,HS.out.1.size,HS.out.new2 (Nat.le_refl _),Sane.new _,by show (0:Int)≤0;omega⟩,HC.out.alloc _⟩
end
end Go.Proofs.YtcjoinhngdfdmaaGreatDoor
namespace Go.Proofs.YtcjoinhngdfdmaaGreatDoor
open Go.RowKit
set_option linter.unusedVariables false
set_option maxHeartbeats 1000000
set_option maxRecDepth 100000
attribute [local go_sem ↓] append_appS copy_copS clear_clrS make_mkS cell_row frozen_row loadLine storeLine loadSlot storeSlot heap_drew heap_drewN heap_alloc heap_past heap_setCell heap_putRow slc_st slc_li slc_us slice_slS loadMsg storeMsg loadHas storeHas msc_kd msc_li msc_di msc_ke
attribute [local go_sem] rowCell_some rowFrozen_some rowHas_some rowIn_some rowPart_full rowPut_full rowSet_some vs_size vs_one wideLine wideSlot run_loadS run_storeS run_appS run_copS run_clrS run_mkS loadW_at storeW_at fit_all fit_le one_int one_bool one_pointer one_slice allOne_list putRow_new ne_size1 ne_size2 zero8_length lines_nil line_eq lit8 slc_size slc_one slc_part fold_slt fold_slc slc_set_us wideMsg wideHas run_slS msc_size msc_one msc_part fold_msc msc_putDi msc_putKe msc_putX ms4_lit
attribute [local simp ↓] heap_drew heap_drewN heap_alloc heap_past heap_setCell heap_putRow
attribute [local simp] rowCell_some rowFrozen_some rowHas_some rowIn_some rowPart_full rowPut_full rowSet_some vs_size fit_all putRow_new ne_size1 ne_size2 zero8_length slc_size msc_size msc_putDi msc_putKe msc_putX fit_le
section
structure Pt where
 s:Sta
 up:List Ms
 an:List Ms
 dn:List Ms
structure Po where
 g:Nat
 a:Nat
 b:Nat
 ub:Nat
 uA:Option Addr
 uc:Nat
 nb:Nat
 nA:Option Addr
 nc:Nat
 db:Nat
 dA:Option Addr
 dc:Nat
def penc (y:Po×Pt):List Value:=[.pointer (some ⟨y.1.g,0,none⟩),.slice y.1.uA y.2.up.length y.1.uc,.slice none 0 0,.slice y.1.nA y.2.an.length y.1.nc,.slice none 0 0,.slice y.1.dA y.2.dn.length y.1.dc,.slice none 0 0]
theorem penc_len (y:Po×Pt):(penc y).length=7:=rfl
def opt (q b:Nat):List Nat:=if b=q then [] else [b]
theorem mem_opt {q b k:Nat}:k∈opt q b↔k=b∧b≠q:=by
 unfold opt;split<;>simp [*]
def Po.foot (po:Nat) (p:Po):List Nat:=[p.g,p.a,p.b]++(opt po p.ub++(opt po p.nb++opt po p.db))
def PortOk (W w:World) (po S N:Nat) (y:Po×Pt):Prop:=
 Agt W w y.1.g y.1.a y.1.b S N y.2.s∧Vof 12 50 Ms.enc w po y.1.ub y.1.uA y.1.uc y.2.up∧Vof 12 50 Ms.enc w po y.1.nb y.1.nA y.1.nc y.2.an∧Vof 12 50 Ms.enc w po y.1.db y.1.dA y.1.dc y.2.dn
theorem Vof.keepN {α:Type} {k:Nat} {e:TypeId} {enc:α→List Value} {w w':World} {q be:Nat} {A:Option Addr} {cap:Nat} {xs:List α} {l:List Nat} (h:Vof k e enc w q be A cap xs) (hc:Chg l w w') (hb:be≠q→be∉l):Vof k e enc w' q be A cap xs:=by
 by_cases hbq:be=q
 ·rcases h with h|⟨h1,_⟩
  ·exact .inl h
  ·exact absurd hbq h1
 ·exact h.keep hc (hb hbq)
theorem Agt.keepL {W w w':World} {g a b S N:Nat} {s:Sta} {l:List Nat} (h:Agt W w g a b S N s) (hc:Chg l w w') (hl:∀x∈l,W.heap.size≤x) (hg:g∉l) (ha:a∉l) (hb:b∉l):Agt W w' g a b S N s:=
 ⟨⟨h.1.1.trans' hc (fun x hx=>.inr (hl x hx)),h.1.2.1.keep hc ha hb,h.1.2.2⟩,hc.keep h.2.1 hg,h.2.2⟩
theorem PortOk.keep {W w w':World} {po S N:Nat} {y:Po×Pt} {l:List Nat} (h:PortOk W w po S N y) (hc:Chg l w w') (hl:∀x∈l,W.heap.size≤x) (hd:∀x∈y.1.foot po,x∉l):PortOk W w' po S N y:=by
 obtain ⟨h1,h2,h3,h4⟩:=h
 have e:∀k,(k=y.1.g∨k=y.1.a∨k=y.1.b∨(k=y.1.ub∧y.1.ub≠po)∨(k=y.1.nb∧y.1.nb≠po)∨(k=y.1.db∧y.1.db≠po))→k∉l:=by
  intro k hk
  refine hd k ?_
  unfold Po.foot
  simp only [List.mem_append,List.mem_cons,List.not_mem_nil,or_false,mem_opt]
  rcases hk with h|h|h|h|h|h<;>simp [h]
 exact ⟨h1.keepL hc hl (e _ (by simp)) (e _ (by simp)) (e _ (by simp)),h2.keepN hc (fun hb=>e _ (by simp [hb])),h3.keepN hc (fun hb=>e _ (by simp [hb])),h4.keepN hc (fun hb=>e _ (by simp [hb]))⟩
theorem PortOk.old {W w:World} {po S N:Nat} {y:Po×Pt} (h:PortOk W w po S N y) (hp:Old w po):∀x∈y.1.foot po,x<w.heap.size:=by
 obtain ⟨h1,h2,h3,h4⟩:=h
 intro x hx
 unfold Po.foot at hx
 simp only [List.mem_append,List.mem_cons,List.not_mem_nil,or_false,mem_opt] at hx
 have a1:=h1.old2
 simp only [List.mem_cons,List.not_mem_nil,or_false,forall_eq_or_imp,forall_eq] at a1
 rcases hx with (h|h|h)|h|h|h
 ·rw [h];exact lt_heap h1.2.1
 ·rw [h];exact a1.1
 ·rw [h];exact a1.2
 ·rw [h.1];exact h2.old hp
 ·rw [h.1];exact h3.old hp
 ·rw [h.1];exact h4.old hp
theorem cat_set {α:Type} {k:Nat} {enc:α→List Value} (hk:∀a,(enc a).length=k):∀(xs:List α) (i:Nat) (a b:α) (o:Nat) (v:Value),xs[i]? =some a→o<k→enc b=(enc a).set o v→cat enc (xs.set i b)=(cat enc xs).set (i*k+o) v
 |[],i,a,b,o,v,h,_,_=>by simp at h
 |x::xs,0,a,b,o,v,h,ho,he=>by
  simp at h
  subst h
  simp only [List.set_cons_zero,cat_cons,Nat.zero_mul,Nat.zero_add]
  rw [he,List.set_append_left _ _ (by rw [hk];exact ho)]
 |x::xs,i+1,a,b,o,v,h,ho,he=>by
  simp only [List.getElem?_cons_succ] at h
  simp only [List.set_cons_succ,cat_cons]
  rw [cat_set hk xs i a b o v h ho he,List.set_append_right _ _ (by rw [hk,Nat.add_mul];omega)]
  congr 2
  rw [hk,Nat.add_mul]
  omega
theorem sq_put {α:Type} {k:Nat} {enc:α→List Value} (hk:∀a,(enc a).length=k) {xs:List α} {i:Nat} {a b:α} {o:Nat} {v:Value} (h:xs[i]? =some a) (ho:o<k) (he:enc b=(enc a).set o v):(sq enc xs []).setIfInBounds (i*k+o) v=sq enc (xs.set i b) []:=by
 unfold sq
 rw [List.setIfInBounds_toArray,List.append_nil,List.append_nil,cat_set hk xs i a b o v h ho he]
end
end Go.Proofs.YtcjoinhngdfdmaaGreatDoor
