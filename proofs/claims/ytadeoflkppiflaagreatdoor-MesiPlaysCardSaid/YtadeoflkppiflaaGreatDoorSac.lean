/- Texts of the walk, one behind the other: Nvm Nvmb Lines Msg Msga Msgr Msgq Msge. No condition. -/
import Derived.Test.YtadeoflkppiflaaGreatDoorSaa
import Derived.Test.YtadeoflkppiflaaGreatDoorSab
import Derived.BigQuiet
import Derived.ChangeKeysEq
import Derived.Deep.QuietTactic
import Derived.Deep.RegionHeld3
import Derived.Deep.RegionWith
import Derived.Laws.LoneSync
import Derived.Laws.StructEq
import Derived.Lib.SliceRun
import Derived.Test.YtadeoflkppiflaaGreatDoorChecked
namespace Go.Proofs.YtadeoflkppiflaaGreatDoor
open Go.RowKit
set_option linter.unusedVariables false
section
theorem QZ:Wide Tryz.prog 36 8:=⟨⟨_,Tryz.underlying36,by rfl⟩,by kernel_rfl⟩
theorem Za (x:Value):Instr.loadAt 36 x=Qc8 36 8 x:=rfl
theorem QN (x y:Value):Instr.storeAt 36 x y=JW 36 8 x y:=rfl
attribute [local go_sem ↓] QA QQ QH Q8 QS QC Za QN Qm Ql heap_alloc Qo heap_setCell Qb
attribute [local go_sem] Qc Qa Qd Qj Qf Qe Qh Qi Qw ZE QZ QO QG Q6 Q0 Q5 Zi Q9 QM QB Zj Q7 Qz QP Qt Qk Qs Qr Qq Qp
attribute [local simp ↓] Qm Ql heap_alloc Qo heap_setCell Qb
attribute [local simp] Qc Qa Qd Qj Qf Qe Qh Qi Qw QB Qk Qs Qr Qq Qp
def Dev (w:World) (g b n v:Nat) (xs:List Int):Prop:=
 (∃r wr:Int,w.heap[g]? =some (.cells #[.slice (some ⟨b,0,none⟩) n n,.int .i64 v,.int .u64 r,.int .u64 wr] 161 (0,0)))∧
 w.heap[b]? =some (.cells (bk xs []) 36 (0,0))∧xs.length=n*8∧2≤n∧n≤64∧1≤v∧v<n∧g≠b
theorem Dev.keep {w w':World} {g b n v:Nat} {xs:List Int} {l:List Nat} (h:Dev w g b n v xs) (hc:Chg l w w') (hg:g∉l) (hb:b∉l):Dev w' g b n v xs:=by
 obtain ⟨⟨r,wr,h1⟩,h2,h3⟩:=h
 exact ⟨⟨r,wr,hc.keep h1 hg⟩,hc.keep h2 hb,h3⟩
theorem within_yes (n a b:Int) (w:World) (h0:a≤n) (h1:n≤b):Calls Tryz.prog 97 #[.int .i64 n,.int .i64 a,.int .i64 b] w fun e w'=>e=.returned (.bool true)∧w=w':=by
 go_enter Tryz.func97,Tryz.ntmps97
 go_wp2
 go_ret
 exact ⟨rfl,rfl⟩
theorem place_ok (g b n v:Nat) (i:Int) (xs:List Int) (w:World) (hd:Dev w g b n v xs) (h0:0≤i) (h1:i<n):
 Calls Tryz.prog 192 #[.pointer (some ⟨g,0,none⟩),.int .i64 i] w fun e w'=>e=.returned (.int .i64 0)∧w=w':=by
 obtain ⟨⟨r,wr,hg⟩,_,_,hn2,hn,_⟩:=hd
 go_enter Tryz.func192,Tryz.ntmps192
 go_wp2_with (go_at_call 97;refine (within_yes _ _ _ _ (by omega) (by omega)).mono ?_;rintro e w' ⟨rfl,rfl⟩)
 go_ret
 exact ⟨rfl,rfl⟩
theorem add_any (g o:Nat) (x:Int) (w:World) (c:Array Value) (T:TypeId) (hg:w.heap[g]? =some (.cells c T (0,0))) (hc:c[o]? =some (.int .u64 x)):
 Calls Tryz.prog 86 #[.pointer (some ⟨g,o,none⟩),.int .u64 1] w fun e w'=>e=.returned (.int .u64 (IntKind.u64.wrap (x+1)))∧w'=w.setCell ⟨g,o,none⟩ (.int .u64 (IntKind.u64.wrap (x+1))):=by
 have hadd:=run_call_add (P:=Tryz.prog) Tryz.func137 (by kernel_rfl) (by kernel_rfl) (by kernel_rfl) .u64 (by kernel_rfl) (a:=⟨g,o,none⟩) (x:=x) (y:=1) (s:=IntKind.u64.wrap (x+1)) (w:=w) (by rw [QS,hg,Qc,hc]) (by rw [QC,hg,Qa]) (by simp [Op.intArith])
 clear hg hc
 go_enter Tryz.func86,Tryz.ntmps86
 go_wp2
 go_ret
 exact ⟨rfl,rfl⟩
theorem Ym {fn:Func} {p t:Tmp} (h:fn.results=#[.cell p 36,.tmp t]) (tmps:Array Value) (w:World) (b:Nat) (l:List Int) (fr:Nat×Nat)
 (hp:tmps.getD p undef=.pointer (some ⟨b,0,none⟩)) (hb:w.heap[b]? =some (.cells (vs l) 36 fr)) (hl:l.length=8) (x:Value) (hx:tmps.getD t undef=x):
 (results fn tmps).run Tryz.prog w=.ok (.tuple #[.agg (vs l),x]) w:=by
 subst hx
 exact Tz116
def Jz:List Int:=[0,0,0,0,0,0,0,0]
theorem Qg:Jz.length=8:=rfl
attribute [local go_sem] Qg
attribute [local simp] Qg
theorem read_ok (g b n v:Nat) (i:Nat) (xs:List Int) (w:World) (hd:Dev w g b n v xs) (h1:i<n):
 Calls Tryz.prog 210 #[.pointer (some ⟨g,0,none⟩),.int .i64 i] w fun e w'=>e=.returned (.tuple #[.agg (vs (ln xs i)),.int .i64 0])∧Chg [g] w w'∧Dev w' g b n v xs:=by
 have hd':=Vh (hd.keep ((Chg.refl [] w).alloc (.cells (vs Jz) 36)) (by simp) (by simp))
 obtain ⟨⟨r,wr,hg⟩,hb,hx,hn2,hn,hv,hvn,hgb⟩:=hd
 have hf:Fit (i*8) 8 xs.length:=by rw [hx];unfold Fit;omega
 have H:=Vh hx
 have hbg:b≠g:=fun e=>hgb e.symm
 have hgl:=old hg
 have hbl:=old hb
 have hl:=Qah xs i hf
 have hi:(i:Int)<(n:Int):=by omega
 have hi0:(0:Int)≤(i:Int):=by omega
 have h64:(n:Int)≤64:=by omega
 have rp:=rowPart_bk hf [] 36 (0,0)
 have ri:=rowIn_bk hf [] 36 (0,0)
 clear hx hf
 go_enter Tryz.func210,Tryz.ntmps210
 go_wp2_with (first
  |(go_at_call 192;refine (place_ok g b n v _ xs _ hd'.out (by omega) (by omega)).mono ?_;rintro e w' ⟨rfl,rfl⟩)
  |(go_at_call 86;refine (add_any g 2 r _ #[.slice (some ⟨b,0,none⟩) n n,.int .i64 v,.int .u64 r,.int .u64 wr] 161 (by rw [heap_alloc,hg];rfl) rfl).mono ?_;rintro e w' ⟨rfl,rfl⟩))
 refine bodyPost_ret (v:=.tuple #[.agg (vs (ln xs i)),.int .i64 0]) ?_ (by rfl) ?_
 ·exact Ym (by rfl) _ _ w.heap.size (ln xs i) (0,0) (by rfl) (by simp [*]) hl _ (by rfl)
 refine ⟨rfl,?_,?_⟩
 ·exact (((Chg.refl _ _).alloc _).setCell _ _ _ (.inl (by simp))).putRow _ _ _ (.inr (by simp))
 ·exact ⟨⟨IntKind.u64.wrap (r+1),wr,by simp [*]⟩,by simp [*],H.out,hn2,hn,hv,hvn,hgb⟩
theorem write_ok (g b n v:Nat) (i:Nat) (l xs:List Int) (w:World) (hd:Dev w g b n v xs) (h1:i<n) (hl:l.length=8):
 Calls Tryz.prog 125 #[.pointer (some ⟨g,0,none⟩),.int .i64 i,.agg (vs l)] w fun e w'=>e=.returned (.int .i64 0)∧Chg [g,b] w w'∧Dev w' g b n v (YL xs i l):=by
 have hd':=Vh (hd.keep ((Chg.refl [] w).alloc (.cells (vs l) 36)) (by simp) (by simp))
 obtain ⟨⟨r,wr,hg⟩,hb,hx,hn2,hn,hv,hvn,hgb⟩:=hd
 have hf:Fit (i*8) 8 xs.length:=by rw [hx];unfold Fit;omega
 have H:=Vh hx
 have HL:=Vh (Yn xs i l hf hl)
 have hbg:b≠g:=fun e=>hgb e.symm
 have hgl:=old hg
 have hbl:=old hb
 have hi:(i:Int)<(n:Int):=by omega
 have hi0:(0:Int)≤(i:Int):=by omega
 have h64:(n:Int)≤64:=by omega
 have rp:=Qcc (xs:=xs) (l:=l) (i:=i) (by rw [hl];exact hf) [] 36 (0,0)
 have ri:=Qdy (xs:=xs) (i:=i) hf [] 36
 clear hx hf
 go_enter Tryz.func125,Tryz.ntmps125
 go_wp2_with (first
  |(go_at_call 192;refine (place_ok g b n v _ xs _ hd'.out (by omega) (by omega)).mono ?_;rintro e w' ⟨rfl,rfl⟩)
  |(go_at_call 86;refine (add_any g 3 wr _ #[.slice (some ⟨b,0,none⟩) n n,.int .i64 v,.int .u64 r,.int .u64 wr] 161 (by rw [heap_alloc,hg];rfl) rfl).mono ?_;rintro e w' ⟨rfl,rfl⟩))
 go_region
 all_goals
  go_wp2
  go_ret
  refine ⟨rfl,?_,?_⟩
  ·exact ((((Chg.refl _ _).alloc _).setCell _ _ _ (.inl (by simp))).drew).putRow _ _ _ (.inl (by simp))
  ·exact ⟨⟨r,IntKind.u64.wrap (wr+1),by simp [*]⟩,by simp [*],HL.out.trans H.out,hn2,hn,hv,hvn,hgb⟩
theorem JP:(Tryz.prog.info? 36).map (fun i=>(i.zero,i.size,i.bytes))=some (some (.agg (vs Jz)),8,64):=by kernel_rfl
theorem Zb (w:World) (a:Option Addr) (n c n' c':Nat):(binOp .eql 24 (.slice a n c) (.slice none n' c')).run Tryz.prog w=.ok (.bool a.isNone) w:=Lib.run_eql_slice_nil w _ _ a n c n' c' Tryz.underlying24
attribute [local go_sem] Zb
theorem clone_ok (A:Option Addr) (n c:Nat) (xs:List Value) (w:World) (h:Sl w 8 A n xs) (h0:0<n) (hn:n*64≤140737488355328):
 Calls Tryz.prog 157 #[.slice A n c] w fun e w'=>∃g cap r,e=.returned (.slice (some ⟨g,0,none⟩) n cap)∧w'.heap[g]? =some (.cells (xs++r).toArray 36 (0,0))∧w.heap.size≤g∧n≤cap∧Chg [] w w':=by
 obtain ⟨i0,hi0,hz0,hz1,hz2⟩:=info_parts JP
 obtain ⟨b,o,rfl⟩:=h.addr h0
 have hcl:=Qdu (P:=Tryz.prog) (t:=24) (ty:=24) Tryz.underlying24 hi0 hz0 (w.alloc (.cells #[] 36)) ⟨w.heap.size,0,none⟩ (some ⟨b,o,none⟩) n c xs (by rw [hz1];exact h.chg ((Chg.refl [] w).alloc _) (by simp)) h0 (by simp only [maxLen];omega) (by rw [hz2];exact hn)
 have hge:=grownCap_ge (w.alloc (.cells #[] 36)) n 0 36
 generalize grownCap (w.alloc (.cells #[] 36)) n 0 36=cap at hcl hge
 generalize (Builtin.zeroCells (Value.agg (vs Jz)).cells (cap-n)).toList=r at hcl
 clear h h0 hn hz0 hz1 hz2 hi0
 go_enter Tryz.func157,Tryz.ntmps157
 go_wp2
 go_ret
 exact ⟨w.heap.size+1,cap,r,rfl,by simp,by omega,hge,(((Chg.refl _ _).alloc _).drew).alloc _⟩
theorem Dev.sl {w:World} {g b n v:Nat} {xs:List Int} (h:Dev w g b n v xs):Sl w 8 (some ⟨b,0,none⟩) n (xs.map (Value.int .u64)):=Sl.of_bk h.2.1 h.2.2.1
def Qf1 (w0:World) (n:Nat) (xs:List Int) (e:Ending) (w':World):Prop:=
 ∃g cap r,e=.returned (.slice (some ⟨g,0,none⟩) n cap)∧w'.heap[g]? =some (.cells (bk xs r) 36 (0,0))∧w0.heap.size≤g∧n≤cap∧Chg [] w0 w'
theorem image_ok (g b n v:Nat) (xs:List Int) (w:World) (hd:Dev w g b n v xs):Calls Tryz.prog 98 #[.pointer (some ⟨g,0,none⟩)] w (Qf1 w n xs):=by
 have hs:=Vh hd.sl
 obtain ⟨⟨r,wr,hg⟩,hb,hx,hn2,hn,hv,hvn,hgb⟩:=hd
 clear hb hx
 go_enter Tryz.func98,Tryz.ntmps98
 go_wp2_with (go_at_call 157;refine (clone_ok _ n _ (xs.map (Value.int .u64)) _ hs.out (by omega) (by omega)).mono ?_;rintro e w' ⟨g',cap,r',rfl,h1,h2,h3,h4⟩)
 go_ret
 exact ⟨g',cap,r',rfl,h1,h2,h3,h4⟩
theorem restore_ok (g b n v:Nat) (xs ys:List Int) (A:Option Addr) (c:Nat) (w:World) (hd:Dev w g b n v xs) (hs:Sl w 8 A n (ys.map (Value.int .u64))):
 Calls Tryz.prog 40 #[.pointer (some ⟨g,0,none⟩),.slice A n c] w fun e w'=>e=.returned (.int .i64 0)∧Chg [b] w w'∧Dev w' g b n v ys:=by
 obtain ⟨⟨r,wr,hg⟩,hb,hx,hn2,hn,hv,hvn,hgb⟩:=hd
 obtain ⟨i0,hi0,hz0,hz1,hz2⟩:=info_parts JP
 have hy:ys.length=n*8:=by simpa using hs.1
 have hcp:=Qfj (P:=Tryz.prog) (t:=24) (ty:=3) Tryz.underlying24 hi0 w b A n c n _ (by rw [hz1];exact hs) (bk_one ys) (by rw [hb,Qd,Qe8,List.length_map,hx,hy];simp [Fit])
 have HC:Chg [b] w (putRow w b 0 (ys.map (Value.int .u64)).toArray):=(Chg.refl _ _).putRow _ _ _ (.inl (by simp))
 have HD:Dev (putRow w b 0 (ys.map (Value.int .u64)).toArray) g b n v ys:=by
  refine ⟨⟨r,wr,HC.keep hg (by simpa using hgb)⟩,?_,hy,hn2,hn,hv,hvn,hgb⟩
  rw [Qb _ _ _ _ _ (by rw [hb,Qd,Qe8,List.size_toArray,List.length_map,hx,hy];simp [Fit]),if_pos rfl,hb,Qe _ _ _ _ (by rw [Qe8,List.size_toArray,List.length_map,hx,hy];rfl)]
  simp [bk]
 generalize putRow w b 0 (ys.map (Value.int .u64)).toArray=w1 at hcp HC HD
 clear hz0 hz1 hz2 hi0 hx hy hs hb
 go_enter Tryz.func40,Tryz.ntmps40
 go_wp2
 go_ret
 exact ⟨rfl,HC,HD⟩
theorem fail_ok (g b n v:Nat) (xs:List Int) (w:World) (hd:Dev w g b n v xs):
 Calls Tryz.prog 41 #[.pointer (some ⟨g,0,none⟩)] w fun e w'=>e=.returned (.tuple #[])∧Chg [b] w w'∧Dev w' g b n v (XE xs v):=by
 obtain ⟨⟨r,wr,hg⟩,hb,hx,hn2,hn,hv,hvn,hgb⟩:=hd
 have hzv:∀w,(zeroValue 36).run Tryz.prog w=.ok (.agg (vs Jz)) w:=fun w=>by
  obtain ⟨i0,hi0,hz0,hz1,hz2⟩:=info_parts JP
  simp [zeroValue,typeInfo,hi0,hz0]
 have hfit:Z7 (w.heap[b]?) 0 (v*8)=true:=by rw [hb,Qd,Qe8,hx];simp [Fit];omega
 have hcl:=run_clear_row (P:=Tryz.prog) (t:=24) (ty:=0) Tryz.underlying24 hzv (by intro v hv;simp [Value.cells,vs,Jz] at hv;rw [hv];rfl) w.drew b v n (by omega) hfit
 rw [show (Value.agg (vs Jz)).cells=vs [0,0,0,0,0,0,0,0] from rfl,zeros_made] at hcl
 have HC:Chg [b] w (putRow w.drew b 0 (vs (List.replicate (v*8) 0))):=((Chg.refl _ _).drew).putRow _ _ _ (.inl (by simp))
 have HD:Dev (putRow w.drew b 0 (vs (List.replicate (v*8) 0))) g b n v (XE xs v):=by
  refine ⟨⟨r,wr,HC.keep hg (by simpa using hgb)⟩,?_,by rw [Jv _ _ (by omega),hx],hn2,hn,hv,hvn,hgb⟩
  rw [Qb _ _ _ _ _ (by rw [Qw,List.length_replicate];exact hfit),if_pos rfl,Qm,hb,rowPut_forget _ _ (by omega)]
 generalize putRow w.drew b 0 (vs (List.replicate (v*8) 0))=w1 at hcl HC HD
 have hvn':(v:Int)≤(n:Int):=by omega
 have hv0:(0:Int)≤(v:Int):=by omega
 clear hx hb hzv hfit
 go_enter Tryz.func41,Tryz.ntmps41
 go_wp2
 go_region
 all_goals
  go_wp2
  go_end0
  exact ⟨rfl,HC,HD⟩
end
section
attribute [local go_sem ↓] QA QQ QH Q8 QS QC Za QN Qm Ql heap_alloc Qo heap_setCell Qb
attribute [local go_sem] Qc Qa Qd Qj Qf Qe Qh Qi Qw ZE QZ QO QG Q6 Q0 Q5 Zi Q9 QM QB Zj Q7 Qz QP Qt Qk Qs Qr Qq Qp Qg Zb
attribute [local simp ↓] Qm Ql heap_alloc Qo heap_setCell Qb
attribute [local simp] Qc Qa Qd Qj Qf Qe Qh Qi Qw QB Qk Qs Qr Qq Qp Qg
theorem Qc9 (w:World) (n:Nat) (hn:n≤64):mkR Tryz.prog 24 (.int .i64 n) (.int .i64 n) w=.ok (.slice (some ⟨w.heap.size,0,none⟩) n n) (w.alloc (.cells (bk (List.replicate (n*8) 0) []) 36)):=by
 obtain ⟨i0,hi0,hz0,hz1,hz2⟩:=info_parts JP
 have:=run_make (P:=Tryz.prog) w 24 36 i0 _ Tryz.underlying24 hi0 hz0 .i64 .i64 n n (by omega) (by omega) (by rw [hz2];omega) (by omega)
 simp only [Int.toNat_natCast,hz1] at this
 rw [←made_made]
 exact this
theorem clone_run (w:World) (A:Option Addr) (n c:Nat) (xs:List Int) (h:Sl w 8 A n (xs.map (Value.int .u64))) (h0:0<n) (hn:n*64≤140737488355328):
 ∃(cap:Nat) (r:List Value),n≤cap∧appR Tryz.prog 24 24 #[.slice (some ⟨w.heap.size,0,none⟩) 0 0,.slice A n c] (w.alloc (.cells #[] 36))=
  .ok (.slice (some ⟨w.heap.size+1,0,none⟩) n cap) ((w.alloc (.cells #[] 36)).drew.alloc (.cells (bk xs r) 36)):=by
 obtain ⟨i0,hi0,hz0,hz1,hz2⟩:=info_parts JP
 have hcl:=Qdu (P:=Tryz.prog) (t:=24) (ty:=24) Tryz.underlying24 hi0 hz0 (w.alloc (.cells #[] 36)) ⟨w.heap.size,0,none⟩ A n c (xs.map (Value.int .u64)) (by rw [hz1];exact h.chg ((Chg.refl [] w).alloc _) (by simp)) h0 (by simp only [maxLen];omega) (by rw [hz2];exact hn)
 refine ⟨_,(Builtin.zeroCells (Value.agg (vs Jz)).cells (grownCap (w.alloc (.cells #[] 36)) n 0 36-n)).toList,grownCap_ge (w.alloc (.cells #[] 36)) n 0 36,?_⟩
 rw [hcl,World.size_alloc]
 rfl
theorem clone_run0 (w:World) (a:Addr) (A:Option Addr) (c:Nat):appR Tryz.prog 24 24 #[.slice (some a) 0 0,.slice A 0 c] w=.ok (.slice (some a) 0 0) w:=by
 obtain ⟨i0,hi0,hz0,hz1,hz2⟩:=info_parts JP
 exact run_clone0 Tryz.underlying24 hi0 w a A c
theorem Qg6 (w:World) (A:Option Addr) (n c:Nat) (xs:List Int) (h:Sl w 8 A n (xs.map (Value.int .u64))) (hn:n*64≤140737488355328):
 ∃(g cap:Nat) (r:List Value) (w':World),appR Tryz.prog 24 24 #[.slice (some ⟨w.heap.size,0,none⟩) 0 0,.slice A n c] (w.alloc (.cells #[] 36))=.ok (.slice (some ⟨g,0,none⟩) n cap) w'∧
  w'.heap[g]? =some (.cells (bk xs r) 36 (0,0))∧w.heap.size≤g∧Chg [] w w':=by
 rcases Nat.eq_zero_or_pos n with h0|h0
 ·subst h0
  have hx:xs=[]:=List.eq_nil_of_length_eq_zero (by simpa using h.1)
  subst hx
  exact ⟨w.heap.size,0,[],_,clone_run0 _ _ A c,by simp [bk],Nat.le_refl _,(Chg.refl _ _).alloc _⟩
 ·obtain ⟨cap,r,_,hr⟩:=clone_run w A n c xs h h0 hn
  exact ⟨w.heap.size+1,cap,r,_,hr,by simp,by omega,((Chg.refl _ _).alloc _).drew.alloc _⟩
def MadeDev (w0:World) (n v:Nat) (e:Ending) (w':World):Prop:=
 e=.returned (.tuple #[.pointer (some ⟨w0.heap.size+1,0,none⟩),.int .i64 0])∧Chg [] w0 w'∧Dev w' (w0.heap.size+1) w0.heap.size n v (List.replicate (n*8) 0)∧w'.heap.size=w0.heap.size+2
theorem new_ok (n v:Nat) (w:World) (h1:2≤n) (h2:n≤64) (h3:1≤v) (h4:v<n):Calls Tryz.prog 39 #[.int .i64 n,.int .i64 v] w (MadeDev w n v):=by
 have hmk:=Qc9 w n h2
 have g1:(2:Int)≤(n:Int):=by omega
 have g2:(n:Int)≤64:=by omega
 go_enter Tryz.func39,Tryz.ntmps39
 go_wp2_with (go_at_call 97;refine (within_yes _ _ _ _ (by omega) (by omega)).mono ?_;rintro e w' ⟨rfl,rfl⟩)
 go_ret2
 refine ⟨rfl,((Chg.refl _ _).alloc _).alloc _,⟨⟨0,0,?_⟩,?_,by simp,h1,h2,h3,h4,by omega⟩,by simp⟩
 ·simp
 ·simp
def RDev (w:World) (g b n v:Nat) (xs:List Int):Prop:=
 (∃cap:Nat,w.heap[g]? =some (.cells #[.slice (some ⟨b,0,none⟩) n cap,.int .i64 v] 169 (0,0)))∧
 (∃r:List Value,w.heap[b]? =some (.cells (bk xs r) 36 (0,0)))∧xs.length=n*8∧2≤n∧n≤64∧1≤v∧v<n∧g≠b
theorem RDev.keep {w w':World} {g b n v:Nat} {xs:List Int} {l:List Nat} (h:RDev w g b n v xs) (hc:Chg l w w') (hg:g∉l) (hb:b∉l):RDev w' g b n v xs:=by
 obtain ⟨⟨c,h1⟩,⟨r,h2⟩,h3⟩:=h
 exact ⟨⟨c,hc.keep h1 hg⟩,⟨r,hc.keep h2 hb⟩,h3⟩
def MadeRDev (w0:World) (n v:Nat) (e:Ending) (w':World):Prop:=
 e=.returned (.tuple #[.pointer (some ⟨w0.heap.size+1,0,none⟩),.int .i64 0])∧Chg [] w0 w'∧RDev w' (w0.heap.size+1) w0.heap.size n v (List.replicate (n*8) 0)∧w'.heap.size=w0.heap.size+2
theorem rnvm_ok (n v:Nat) (w:World) (h1:2≤n) (h2:n≤64) (h3:1≤v) (h4:v<n):Calls Tryz.prog 44 #[.int .i64 n,.int .i64 v] w (MadeRDev w n v):=by
 have hmk:=Qc9 w n h2
 have t1:decide ((n:Int)<2)=false:=by simp;omega
 have t2:decide ((64:Int)<n)=false:=by simp;omega
 have t3:decide ((v:Int)<1)=false:=by simp;omega
 have t4:decide (n≤v)=false:=by simp;omega
 have H:=Vh h1
 clear h1
 go_enter Tryz.func44,Tryz.ntmps44
 go_wp2
 go_ret2
 refine ⟨rfl,((Chg.refl _ _).alloc _).alloc _,⟨⟨n,?_⟩,⟨[],?_⟩,by simp,H.out,h2,h3,h4,by omega⟩,by simp⟩
 ·simp
 ·simp
theorem has_yes (g b n v:Nat) (i:Int) (xs:List Int) (w:World) (hd:RDev w g b n v xs) (h0:0≤i) (h1:i<n):
 Calls Tryz.prog 189 #[.pointer (some ⟨g,0,none⟩),.int .i64 i] w fun e w'=>e=.returned (.bool true)∧w=w':=by
 obtain ⟨⟨c,hg⟩,_⟩:=hd
 have t1:decide (i<n)=true:=by simpa using h1
 have t2:decide (0≤i)=true:=by simpa using h0
 go_enter Tryz.func189,Tryz.ntmps189
 go_wp2
 go_ret
 exact ⟨rfl,rfl⟩
theorem has_no (g b n v:Nat) (i:Int) (xs:List Int) (w:World) (hd:RDev w g b n v xs) (h:¬(0≤i∧i<n)):
 Calls Tryz.prog 189 #[.pointer (some ⟨g,0,none⟩),.int .i64 i] w fun e w'=>e=.returned (.bool false)∧w=w':=by
 obtain ⟨⟨c,hg⟩,_⟩:=hd
 by_cases h0:0≤i
 ·have t2:decide (0≤i)=true:=by simpa using h0
  have t1:decide (i<n)=false:=by simp;omega
  clear h
  go_enter Tryz.func189,Tryz.ntmps189
  go_wp2
  go_ret
  exact ⟨rfl,rfl⟩
 ·have t2:decide (0≤i)=false:=by simpa using h0
  clear h h0
  go_enter Tryz.func189,Tryz.ntmps189
  go_wp2
  go_ret
  exact ⟨rfl,rfl⟩
theorem rread_out (g b n v:Nat) (i:Int) (xs:List Int) (w:World) (hd:RDev w g b n v xs) (h0:¬(0≤i∧i<n)):
 Calls Tryz.prog 173 #[.pointer (some ⟨g,0,none⟩),.int .i64 i] w fun e w'=>e=.returned (.tuple #[.agg (vs Jz),.int .i64 12])∧Chg [] w w':=by
 have hd':=Vh (hd.keep ((Chg.refl [] w).alloc (.cells (vs Jz) 36)) (by simp) (by simp))
 have H:=Vh h0
 clear h0 hd
 go_enter Tryz.func173,Tryz.ntmps173
 go_wp2_with (go_at_call 189;refine (has_no g b n v _ xs _ hd'.out H.out).mono ?_;rintro e w' ⟨rfl,rfl⟩)
 refine bodyPost_ret (v:=.tuple #[.agg (vs Jz),.int .i64 12]) ?_ (by rfl) ?_
 ·exact Ym (by rfl) _ _ w.heap.size Jz (0,0) (by rfl) (by simp;try rfl) (by rfl) _ (by rfl)
 exact ⟨rfl,(Chg.refl _ _).alloc _⟩
theorem rread_ok (g b n v:Nat) (i:Nat) (xs:List Int) (w:World) (hd:RDev w g b n v xs) (h1:i<n):
 Calls Tryz.prog 173 #[.pointer (some ⟨g,0,none⟩),.int .i64 i] w fun e w'=>e=.returned (.tuple #[.agg (vs (ln xs i)),.int .i64 0])∧Chg [] w w':=by
 have hd':=Vh (hd.keep ((Chg.refl [] w).alloc (.cells (vs Jz) 36)) (by simp) (by simp))
 obtain ⟨⟨c,hg⟩,⟨r,hb⟩,hx,hn2,hn,hv,hvn,hgb⟩:=hd
 have hf:Fit (i*8) 8 xs.length:=by rw [hx];unfold Fit;omega
 have hgl:=old hg
 have hbl:=old hb
 have hl:=Qah xs i hf
 have hi:(i:Int)<(n:Int):=by omega
 have hi0:(0:Int)≤(i:Int):=by omega
 have h64:(n:Int)≤64:=by omega
 have rp:=rowPart_bk hf r 36 (0,0)
 have ri:=rowIn_bk hf r 36 (0,0)
 clear hx hf
 go_enter Tryz.func173,Tryz.ntmps173
 go_wp2_with (go_at_call 189;refine (has_yes g b n v _ xs _ hd'.out hi0 hi).mono ?_;rintro e w' ⟨rfl,rfl⟩)
 refine bodyPost_ret (v:=.tuple #[.agg (vs (ln xs i)),.int .i64 0]) ?_ (by rfl) ?_
 ·exact Ym (by rfl) _ _ w.heap.size (ln xs i) (0,0) (by rfl) (by simp [*]) hl _ (by rfl)
 exact ⟨rfl,(Chg.refl _ _).alloc _⟩
theorem rwrite_ok (g b n v:Nat) (i:Nat) (l xs:List Int) (w:World) (hd:RDev w g b n v xs) (h1:i<n) (hl:l.length=8):
 Calls Tryz.prog 191 #[.pointer (some ⟨g,0,none⟩),.int .i64 i,.agg (vs l)] w fun e w'=>e=.returned (.int .i64 0)∧Chg [b] w w'∧RDev w' g b n v (YL xs i l):=by
 have hd':=Vh (hd.keep ((Chg.refl [] w).alloc (.cells (vs l) 36)) (by simp) (by simp))
 obtain ⟨⟨c,hg⟩,⟨r,hb⟩,hx,hn2,hn,hv,hvn,hgb⟩:=hd
 have hf:Fit (i*8) 8 xs.length:=by rw [hx];unfold Fit;omega
 have H:=Vh hx
 have HL:=Vh (Yn xs i l hf hl)
 have hbg:b≠g:=fun e=>hgb e.symm
 have hgl:=old hg
 have hbl:=old hb
 have hi:(i:Int)<(n:Int):=by omega
 have hi0:(0:Int)≤(i:Int):=by omega
 have h64:(n:Int)≤64:=by omega
 have rp:=Qcc (xs:=xs) (l:=l) (i:=i) (by rw [hl];exact hf) r 36 (0,0)
 have ri:=Qdy (xs:=xs) (i:=i) hf r 36
 clear hx hf
 go_enter Tryz.func191,Tryz.ntmps191
 go_wp2_with (go_at_call 189;refine (has_yes g b n v _ xs _ hd'.out hi0 hi).mono ?_;rintro e w' ⟨rfl,rfl⟩)
 go_region
 all_goals
  go_wp2
  go_ret
  refine ⟨rfl,?_,?_⟩
  ·exact (((Chg.refl _ _).alloc _).drew).putRow _ _ _ (.inl (by simp))
  ·exact ⟨⟨c,by simp [*]⟩,⟨r,by simp [*]⟩,HL.out.trans H.out,hn2,hn,hv,hvn,hgb⟩
theorem rrestore_ok (g b n v:Nat) (xs ys:List Int) (A:Option Addr) (c:Nat) (w:World) (hd:RDev w g b n v xs) (hs:Sl w 8 A n (ys.map (Value.int .u64))):
 Calls Tryz.prog 45 #[.pointer (some ⟨g,0,none⟩),.slice A n c] w fun e w'=>e=.returned (.int .i64 0)∧∃b',w.heap.size≤b'∧Chg [g] w w'∧RDev w' g b' n v ys:=by
 obtain ⟨⟨cp,hg⟩,⟨r,hb⟩,hx,hn2,hn,hv,hvn,hgb⟩:=hd
 obtain ⟨i0,hi0,hz0,hz1,hz2⟩:=info_parts JP
 have hy:=Vh (show ys.length=n*8 by simpa using hs.1)
 have hcl:=Qdu (P:=Tryz.prog) (t:=24) (ty:=24) Tryz.underlying24 hi0 hz0 (w.alloc (.cells #[] 36)) ⟨w.heap.size,0,none⟩ A n c _ (by rw [hz1];exact hs.chg ((Chg.refl [] w).alloc _) (by simp)) (by omega) (by simp only [maxLen];omega) (by rw [hz2];omega)
 generalize grownCap (w.alloc (.cells #[] 36)) n 0 36=cap at hcl
 generalize (Builtin.zeroCells (Value.agg (vs Jz)).cells (cap-n)).toList=r' at hcl
 rw [show (ys.map (Value.int .u64)++r').toArray=bk ys r' from rfl] at hcl
 have hgl:=old hg
 have hgs:=hgl.lt
 have hgs':=Vh hgs
 clear hz0 hz1 hz2 hi0 hx hs hb hgs
 go_enter Tryz.func45,Tryz.ntmps45
 go_wp2
 go_ret
 refine ⟨rfl,w.heap.size+1,by omega,?_,?_⟩
 ·exact ((((Chg.refl _ _).alloc _).drew).alloc _).setCell _ _ _ (.inl (by simp))
 ·exact ⟨⟨cap,by simp [*]⟩,⟨r',by simp [*]⟩,hy.out,hn2,hn,hv,hvn,by have:=hgs'.out;omega⟩
theorem rfail_ok (g b n v:Nat) (xs:List Int) (w:World) (hd:RDev w g b n v xs):
 Calls Tryz.prog 46 #[.pointer (some ⟨g,0,none⟩)] w fun e w'=>e=.returned (.tuple #[])∧Chg [b] w w'∧RDev w' g b n v (XE xs v):=by
 obtain ⟨⟨cp,hg⟩,⟨r,hb⟩,hx,hn2,hn,hv,hvn,hgb⟩:=hd
 have H:=Vh hx
 have HG:=Vh hg
 have HB:=Vh hb
 clear hx hg hb
 go_enter Tryz.func46,Tryz.ntmps46
 go_wp2
 go_loopw [2] (fun i wr=>∃k:Nat,k≤v∧i=.int .i64 k∧Chg [b] w wr∧wr.heap[b]? =some (.cells (bk (XE xs k) r) 36 (0,0))) (fun i _=>v-(intOf i).toNat)
 case atStart=>exact ⟨0,by omega,rfl,Chg.refl _ _,by rw [forget_zero];exact HB.out⟩
 case round=>
  obtain ⟨k,hk,rfl,hc,hb⟩:=hrel
  have hg:=hc.keep HG.out (by simpa using hgb)
  have hbg:b≠g:=fun e=>hgb e.symm
  by_cases hlt:k<v
  ·have hx:=H.out
   have hf:Fit (k*8) 8 (XE xs k).length:=by rw [Jv _ _ (by omega),hx];unfold Fit;omega
   have hi:(k:Int)<(n:Int):=by omega
   have hi0:(0:Int)≤(k:Int):=by omega
   have h64:(n:Int)≤64:=by omega
   have rp:=Qcc (xs:=XE xs k) (l:=Jz) (i:=k) hf r 36 (0,0)
   have hs:=Vh (forget_succ xs k (by omega))
   have ri:=Qdy (xs:=XE xs k) (i:=k) hf r 36
   clear hx hf
   go_wp2
   go_roundw
   case rel=>exact ⟨k+1,by omega,by go_num,hc.putRow _ _ _ (.inl (by simp)),by rw [←hs.out];simp [*];exact rp⟩
   case measure=>simp [intOf];omega
  ·have:k=v:=by omega
   subst this
   go_wp2
   go_end0
   exact ⟨rfl,hc,⟨cp,hg⟩,⟨r,hb⟩,by rw [Jv _ _ (by have:=H.out;omega)];exact H.out,hn2,hn,hv,hvn,hgb⟩
end
section
attribute [local go_sem ↓] QA QQ QH Q8 QS QC Za QN Qm Ql heap_alloc Qo heap_setCell Qb
attribute [local go_sem] Qc Qa Qd Qj Qf Qe Qh Qi Qw ZE QZ QO QG Q6 Q0 Q5 Zi Q9 QM QB Zj Q7 Qz QP Qt Qk Qs Qr Qq Qp Qg Zb
attribute [local simp ↓] Qm Ql heap_alloc Qo heap_setCell Qb
attribute [local simp] Qc Qa Qd Qj Qf Qe Qh Qi Qw QB Qk Qs Qr Qq Qp Qg
theorem Ze (a b:List Int) (ha:a.length=8) (hb:b.length=8) (w:World):(Op.equalIn 10000 36 (.agg (vs a)) (.agg (vs b))).run Tryz.prog w=.ok (a==b) w:=by
 obtain ⟨i0,hi0⟩:∃i,Tryz.prog.info? 34=some i:=Option.isSome_iff_exists.1 (by kernel_rfl)
 exact eq_ints_array w (k:=.u64) Tryz.underlying36 hi0 Tryz.underlying34 (by kernel_rfl) a b ha hb
attribute [local go_sem] Ze lit8
attribute [local go_sem ↓] ZF
theorem lines_same (b o b' o' n c c':Nat) (xs:List Int) (w:World) (h1:Sl w 8 (some ⟨b,o,none⟩) n (xs.map (Value.int .u64))) (h2:Sl w 8 (some ⟨b',o',none⟩) n (xs.map (Value.int .u64))) (hn:n≤100000):
 Calls Tryz.prog 71 #[.slice (some ⟨b,o,none⟩) n c,.slice (some ⟨b',o',none⟩) n c'] w fun e w'=>e=.returned (.bool true)∧Chg [] w w':=by
 have H1:=Vh h1
 have H2:=Vh h2
 clear h1 h2
 go_enter Tryz.func71,Tryz.ntmps71
 go_wp2
 go_loopw [5] (fun i wr=>∃k:Nat,k≤n∧i=.int .i64 k∧Chg [] w wr) (fun i _=>n-(intOf i).toNat)
 case atStart=>exact ⟨0,by omega,rfl,Chg.refl _ _⟩
 case round=>
  obtain ⟨k,hk,rfl,hc⟩:=hrel
  by_cases hlt:k<n
  ·obtain ⟨cs,t,f,hb,hi,hp,hl⟩:=(H1.out.chg hc (by simp)).line hlt
   obtain ⟨cs',t',f',hb',hi',hp',hl'⟩:=(H2.out.chg hc (by simp)).line hlt
   have g1:(k:Int)<(n:Int):=by omega
   have g0:(0:Int)≤(k:Int):=by omega
   have g2:(n:Int)≤100000:=by omega
   go_wp2
   go_region
   all_goals
    go_wp2
    go_roundw
    case rel=>exact ⟨k+1,by omega,by go_num,hc.drew⟩
    case measure=>simp [intOf];omega
  ·have:k=n:=by omega
   subst this
   go_wp2
   go_ret
   exact ⟨rfl,hc⟩
end
section
set_option maxHeartbeats 1000000
theorem Zy:Wide Tryz.prog 38 12:=⟨⟨_,Tryz.underlying38,by rfl⟩,by kernel_rfl⟩
theorem ZB (x:Value):Instr.loadAt 38 x=Qc8 38 12 x:=rfl
theorem Zk (x y:Value):Instr.storeAt 38 x y=JW 38 12 x y:=rfl
theorem ZH:Wide Tryz.prog 263 3:=⟨⟨_,Tryz.underlying263,by rfl⟩,by kernel_rfl⟩
theorem ZI (x:Value):Instr.loadAt 263 x=Qc8 263 3 x:=rfl
theorem Zv (x y:Value):Instr.storeAt 263 x y=JW 263 3 x y:=rfl
attribute [local go_sem ↓] QA QQ QH Q8 Zc QS QC Za QN ZB Zk ZI Zv Qm Ql heap_alloc Qo heap_setCell Qb ZF ZM ZK ZN ZL
attribute [local go_sem] Qc Qa Qd Qj Qf Qe Qh Qi Qw ZE QZ Zy ZH QO QG Q6 Q0 Q5 Zi Zz Q9 QM QB QI Zj Q7 Qz QP Qt Qk Qs Qr Qq Qp Qg Ze lit8 Qv ZA Zl Zm
attribute [local simp ↓] Qm Ql heap_alloc Qo heap_setCell Qb
attribute [local simp] Qc Qa Qd Qj Qf Qe Qh Qi Qw QB Qk Qs Qr Qq Qp Qg Qv
theorem JC (n a b:Int) (w:World):Calls Tryz.prog 204 #[.int .i64 n,.int .i64 a,.int .i64 b] w fun e w'=>e=.returned (.bool (decide (a≤n)&&decide (n≤b)))∧w=w':=by
 by_cases h:a≤n
 ·have t1:decide (a≤n)=true:=by simpa using h
  rw [t1]
  clear h
  go_enter Tryz.func204,Tryz.ntmps204
  go_wp2
  go_ret
  exact ⟨by simp,rfl⟩
 ·have t1:decide (a≤n)=false:=by simpa using h
  rw [t1]
  clear h
  go_enter Tryz.func204,Tryz.ntmps204
  go_wp2
  go_ret
  exact ⟨by simp,rfl⟩
theorem asks_any (k:Int) (w:World):Calls Tryz.prog 145 #[.int .i64 k] w fun e w'=>e=.returned (.bool (Yc k))∧w=w':=by
 go_enter Tryz.func145,Tryz.ntmps145
 exact Tz113
theorem answers_any (k:Int) (w:World):Calls Tryz.prog 153 #[.int .i64 k] w fun e w'=>e=.returned (.bool (Xe k))∧w=w':=by
 go_enter Tryz.func153,Tryz.ntmps153
 exact Tz113
theorem tells_any (k:Int) (w:World):Calls Tryz.prog 149 #[.int .i64 k] w fun e w'=>e=.returned (.bool (Z1 k))∧w=w':=by
 go_enter Tryz.func149,Tryz.ntmps149
 exact Tz113
theorem Y9 (k:Int) (w:World):Calls Tryz.prog 177 #[.int .i64 k] w fun e w'=>e=.returned (.bool (Yc k))∧w=w':=by
 unfold Yc
 by_cases h:1≤k
 ·have t1:decide (1≤k)=true:=by simpa using h
  rw [t1]
  clear h
  go_enter Tryz.func177,Tryz.ntmps177
  go_wp2
  go_ret
  exact ⟨by simp,rfl⟩
 ·have t1:decide (1≤k)=false:=by simpa using h
  rw [t1]
  clear h
  go_enter Tryz.func177,Tryz.ntmps177
  go_wp2
  go_ret
  exact ⟨by simp,rfl⟩
theorem X7 (k:Int) (w:World):Calls Tryz.prog 184 #[.int .i64 k] w fun e w'=>e=.returned (.bool (Xe k))∧w=w':=by
 by_cases h:k=6
 ·subst h
  go_enter Tryz.func184,Tryz.ntmps184
  go_wp2
  go_ret
  exact ⟨rfl,rfl⟩
 ·have t1:(k==6)=false:=by simpa using h
  have e1:Xe k=(k==7):=by
   rw [Bool.eq_iff_iff];simp [Xe];omega
  rw [e1]
  clear h e1
  go_enter Tryz.func184,Tryz.ntmps184
  go_wp2
  go_ret
  exact ⟨rfl,rfl⟩
theorem YF (k:Int) (w:World):Calls Tryz.prog 185 #[.int .i64 k] w fun e w'=>e=.returned (.bool (Z1 k))∧w=w':=by
 unfold Z1
 by_cases h:8≤k
 ·have t1:decide (8≤k)=true:=by simpa using h
  rw [t1]
  clear h
  go_enter Tryz.func185,Tryz.ntmps185
  go_wp2
  go_ret
  exact ⟨by simp,rfl⟩
 ·have t1:decide (8≤k)=false:=by simpa using h
  rw [t1]
  clear h
  go_enter Tryz.func185,Tryz.ntmps185
  go_wp2
  go_ret
  exact ⟨by simp,rfl⟩
theorem mgood_kind (m:Ms) (w:World) (h:Qak m.kd=false):Calls Tryz.prog 144 #[.agg (msc m)] w fun e w'=>e=.returned (.bool (mg m))∧Chg [] w w':=by
 rw [show mg m=false by simp [mg,h]]
 go_enter Tryz.func144,Tryz.ntmps144
 try dsimp only [List.append]
 go_wp2_with (go_at_call 204;refine (JC _ _ _ _).mono ?_;rintro e w' ⟨rfl,rfl⟩;rw [show (decide (1≤m.kd)&&decide (m.kd≤14))=false from h])
 exact Tz70
theorem mgood_line (m:Ms) (w:World) (h1:Qak m.kd=true) (h:JT m.li=false):Calls Tryz.prog 144 #[.agg (msc m)] w fun e w'=>e=.returned (.bool (mg m))∧Chg [] w w':=by
 rw [show mg m=false by simp [mg,h]]
 go_enter Tryz.func144,Tryz.ntmps144
 try dsimp only [List.append]
 go_wp2_with (go_at_call 204;refine (JC _ _ _ _).mono ?_;rintro e w' ⟨rfl,rfl⟩;(try rw [show (decide (1≤m.kd)&&decide (m.kd≤14))=true from h1]);(try rw [show (decide (0≤m.li)&&decide (m.li≤63))=false from h]))
 exact Tz70
end
section
set_option maxHeartbeats 1000000
attribute [local go_sem ↓] QA QQ QH Q8 Zc QS QC Za QN ZB Zk ZI Zv Qm Ql heap_alloc Qo heap_setCell Qb ZF ZM ZK ZN ZL
attribute [local go_sem] Qc Qa Qd Qj Qf Qe Qh Qi Qw ZE QZ Zy ZH QO QG Q6 Q0 Q5 Zi Zz Q9 QM QB QI Zj Q7 Qz QP Qt Qk Qs Qr Qq Qp Qg Ze lit8 Qv ZA Zl Zm
attribute [local simp ↓] Qm Ql heap_alloc Qo heap_setCell Qb
attribute [local simp] Qc Qa Qd Qj Qf Qe Qh Qi Qw QB Qk Qs Qr Qq Qp Qg Qv
theorem mgood_in (m:Ms) (k:Nat) (w:World) (hk:m.kd=k) (h1:1≤k) (h2:k≤14) (hl:JT m.li=true) (ht:Tab w):Calls Tryz.prog 144 #[.agg (msc m)] w fun e w'=>e=.returned (.bool (mg m))∧Chg [] w w':=by
 have oh:=ht.old
 obtain ⟨t,f,ht⟩:=ht
 obtain ⟨ri,rp⟩:=tab_row k (by omega) t f
 obtain ⟨kd,li,di,ke,l,h8⟩:=m
 simp only at hk hl
 subst hk
 have hkd:Qak (k:Int)=true:=by simp [Qak];omega
 have hmg:mg ⟨k,li,di,ke,l,h8⟩=((!di||mayD k)&&(!ke||mayK k)&&(mayW k||di||l==[0,0,0,0,0,0,0,0])):=by simp [mg,hkd,hl]
 have he:=fun W=>Ze l [0,0,0,0,0,0,0,0] h8 rfl W
 have g0:(0:Int)≤(k:Int):=by omega
 have g1:(k:Int)<15:=by omega
 have g2:k<15:=by omega
 rw [hmg]
 have HK:=Vh hkd
 have HL:=Vh hl
 clear hmg h1 h2 hkd hl
 generalize mayD (k:Int)=d at rp ⊢
 generalize mayK (k:Int)=e at rp ⊢
 generalize mayW (k:Int)=s at rp ⊢
 have hc:(di=true∧d=false)∨((di=false∨(di=true∧d=true))∧((ke=true∧e=false)∨((ke=false∨(ke=true∧e=true))∧(s=true∨s=false)))):=by
  cases di<;>cases d<;>cases ke<;>cases e<;>cases s<;>simp
 rcases hc with ⟨rfl,rfl⟩|⟨rfl|⟨rfl,rfl⟩,⟨rfl,rfl⟩|⟨rfl|⟨rfl,rfl⟩,rfl|rfl⟩⟩
 all_goals
  go_enter Tryz.func144,Tryz.ntmps144
  try dsimp only [List.append]
  go_wp2_with (go_at_call 204;refine (JC _ _ _ _).mono ?_;rintro e w' ⟨rfl,rfl⟩;(try rw [show (decide ((1:Int)≤(k:Int))&&decide ((k:Int)≤14))=true from HK.out]);(try rw [show (decide (0≤li)&&decide (li≤63))=true from HL.out]))
  go_ret
  exact ⟨by simp,((((Chg.refl _ _).alloc _).alloc _)).putRow _ _ _ (.inr (by simp))⟩
theorem Qgm (m:Ms) (w:World) (ht:Tab w):Calls Tryz.prog 144 #[.agg (msc m)] w fun e w'=>e=.returned (.bool (mg m))∧Chg [] w w':=by
 cases h1:Qak m.kd
 ·exact mgood_kind m w h1
 cases h2:JT m.li
 ·exact mgood_line m w h1 h2
 have h3:1≤m.kd∧m.kd≤14:=by simpa [Qak] using h1
 exact mgood_in m m.kd.toNat w (by omega) (by omega) (by omega) h2 ht
end
section
set_option maxHeartbeats 1000000
attribute [local go_sem ↓] QA QQ QH Q8 Zc QS QC Za QN ZB Zk ZI Zv Qm Ql heap_alloc Qo heap_setCell Qb ZF ZM ZK ZN ZL
attribute [local go_sem] Qc Qa Qd Qj Qf Qe Qh Qi Qw ZE QZ Zy ZH QO QG Q6 Q0 Q5 Zi Zz Q9 QM QB QI Zj Q7 Qz QP Qt Qk Qs Qr Qq Qp Qg Ze lit8 Qv ZA Zl Zm
attribute [local simp ↓] Qm Ql heap_alloc Qo heap_setCell Qb
attribute [local simp] Qc Qa Qd Qj Qf Qe Qh Qi Qw QB Qk Qs Qr Qq Qp Qg Qv
theorem rgood_kind (kd li:Int) (di ke:Bool) (l:List Int) (h8:l.length=8) (a1:Yc kd=false) (a2:Xe kd=false) (a3:Z1 kd=false) (w:World):Calls Tryz.prog 176 #[.agg (msc ⟨kd,li,di,ke,l,h8⟩)] w fun e w'=>e=.returned (.bool false)∧Chg [] w w':=by
 skip
 all_goals
  exact Tz84
theorem rgood_line (kd li:Int) (di ke:Bool) (l:List Int) (h8:l.length=8) (hw:Yc kd=true∨(Yc kd=false∧Xe kd=true)∨(Yc kd=false∧Xe kd=false∧Z1 kd=true)) (h:JT li=false) (w:World):Calls Tryz.prog 176 #[.agg (msc ⟨kd,li,di,ke,l,h8⟩)] w fun e w'=>e=.returned (.bool false)∧Chg [] w w':=by
 have hl2:(decide (li<0)=true)∨(decide (li<0)=false∧decide (63<li)=true):=by
  simp [JT] at h ⊢;omega
 clear h
 rcases hw with a1|⟨a1,a2⟩|⟨a1,a2,a3⟩<;>rcases hl2 with h|⟨h,h'⟩
 all_goals
  exact Tz84
theorem rgood_3 (kd li:Int) (di ke:Bool) (l:List Int) (h8:l.length=8) (a1:Yc kd=true) (t3:(kd==3)=true) (t6:(kd==6)=false) (t7:(kd==7)=false) (t8:(kd==8)=false) (t9:(kd==9)=false) (t10:(kd==10)=false) (t7':(kd !=7)=true) (l0:decide (li<0)=false) (l1:decide (63<li)=false) (w:World):Calls Tryz.prog 176 #[.agg (msc ⟨kd,li,di,ke,l,h8⟩)] w fun e w'=>e=.returned (.bool ((!di||true)&&(!ke||false)&&(false||di||l==[0,0,0,0,0,0,0,0])))∧Chg [] w w':=by
 exact Tz13
theorem rgood_6 (kd li:Int) (di ke:Bool) (l:List Int) (h8:l.length=8) (a1:Yc kd=false) (a2:Xe kd=true) (t3:(kd==3)=false) (t6:(kd==6)=true) (t7:(kd==7)=false) (t8:(kd==8)=false) (t9:(kd==9)=false) (t10:(kd==10)=false) (t7':(kd !=7)=true) (l0:decide (li<0)=false) (l1:decide (63<li)=false) (w:World):Calls Tryz.prog 176 #[.agg (msc ⟨kd,li,di,ke,l,h8⟩)] w fun e w'=>e=.returned (.bool ((!di||true)&&(!ke||false)&&(false||di||l==[0,0,0,0,0,0,0,0])))∧Chg [] w w':=by
 exact Tz13
theorem rgood_7 (kd li:Int) (di ke:Bool) (l:List Int) (h8:l.length=8) (a1:Yc kd=false) (a2:Xe kd=true) (t3:(kd==3)=false) (t6:(kd==6)=false) (t7:(kd==7)=true) (t8:(kd==8)=false) (t9:(kd==9)=false) (t10:(kd==10)=false) (t7':(kd !=7)=false) (l0:decide (li<0)=false) (l1:decide (63<li)=false) (w:World):Calls Tryz.prog 176 #[.agg (msc ⟨kd,li,di,ke,l,h8⟩)] w fun e w'=>e=.returned (.bool ((!di||true)&&(!ke||true)&&(false||di||l==[0,0,0,0,0,0,0,0])))∧Chg [] w w':=by
 exact Tz13
theorem rgood_8 (kd li:Int) (di ke:Bool) (l:List Int) (h8:l.length=8) (a1:Yc kd=false) (a2:Xe kd=false) (a3:Z1 kd=true) (t3:(kd==3)=false) (t6:(kd==6)=false) (t7:(kd==7)=false) (t8:(kd==8)=true) (t9:(kd==9)=false) (t10:(kd==10)=false) (t7':(kd !=7)=true) (l0:decide (li<0)=false) (l1:decide (63<li)=false) (w:World):Calls Tryz.prog 176 #[.agg (msc ⟨kd,li,di,ke,l,h8⟩)] w fun e w'=>e=.returned (.bool ((!di||false)&&(!ke||false)&&(true||di||l==[0,0,0,0,0,0,0,0])))∧Chg [] w w':=by
 exact Tz13
theorem rgood_9 (kd li:Int) (di ke:Bool) (l:List Int) (h8:l.length=8) (a1:Yc kd=false) (a2:Xe kd=false) (a3:Z1 kd=true) (t3:(kd==3)=false) (t6:(kd==6)=false) (t7:(kd==7)=false) (t8:(kd==8)=false) (t9:(kd==9)=true) (t10:(kd==10)=false) (t7':(kd !=7)=true) (l0:decide (li<0)=false) (l1:decide (63<li)=false) (w:World):Calls Tryz.prog 176 #[.agg (msc ⟨kd,li,di,ke,l,h8⟩)] w fun e w'=>e=.returned (.bool ((!di||false)&&(!ke||false)&&(true||di||l==[0,0,0,0,0,0,0,0])))∧Chg [] w w':=by
 exact Tz13
theorem rgood_10 (kd li:Int) (di ke:Bool) (l:List Int) (h8:l.length=8) (a1:Yc kd=false) (a2:Xe kd=false) (a3:Z1 kd=true) (t3:(kd==3)=false) (t6:(kd==6)=false) (t7:(kd==7)=false) (t8:(kd==8)=false) (t9:(kd==9)=false) (t10:(kd==10)=true) (t7':(kd !=7)=true) (l0:decide (li<0)=false) (l1:decide (63<li)=false) (w:World):Calls Tryz.prog 176 #[.agg (msc ⟨kd,li,di,ke,l,h8⟩)] w fun e w'=>e=.returned (.bool ((!di||false)&&(!ke||false)&&(true||di||l==[0,0,0,0,0,0,0,0])))∧Chg [] w w':=by
 exact Tz13
theorem rgood_n (kd li:Int) (di ke:Bool) (l:List Int) (h8:l.length=8) (hw:Yc kd=true∨(Yc kd=false∧Xe kd=true)∨(Yc kd=false∧Xe kd=false∧Z1 kd=true)) (t3:(kd==3)=false) (t6:(kd==6)=false) (t7:(kd==7)=false) (t8:(kd==8)=false) (t9:(kd==9)=false) (t10:(kd==10)=false) (t7':(kd !=7)=true) (l0:decide (li<0)=false) (l1:decide (63<li)=false) (w:World):Calls Tryz.prog 176 #[.agg (msc ⟨kd,li,di,ke,l,h8⟩)] w fun e w'=>e=.returned (.bool ((!di||false)&&(!ke||false)&&(false||di||l==[0,0,0,0,0,0,0,0])))∧Chg [] w w':=by
 have he:=fun W=>Ze l [0,0,0,0,0,0,0,0] h8 rfl W
 rcases hw with a1|⟨a1,a2⟩|⟨a1,a2,a3⟩
 rotate_left
 ·exact absurd (show Xe kd=false by revert t6 t7;simp [Xe];omega) (by simp [a2])
 all_goals cases di<;>cases ke
 all_goals
  exact Tz14
theorem rgood_any (m:Ms) (w:World):Calls Tryz.prog 176 #[.agg (msc m)] w fun e w'=>e=.returned (.bool (mg m))∧Chg [] w w':=by
 obtain ⟨kd,li,di,ke,l,h8⟩:=m
 have hw:=ways_kind kd
 rw [show mg ⟨kd,li,di,ke,l,h8⟩=(Qak kd&&JT li&&(!di||mayD kd)&&(!ke||mayK kd)&&(mayW kd||di||l==[0,0,0,0,0,0,0,0])) from rfl]
 cases hk:Qak kd
 ·rw [hk] at hw
  simp only [Bool.or_eq_false_iff] at hw
  exact (rgood_kind kd li di ke l h8 hw.1.1 hw.1.2 hw.2 w).mono (by simp)
 rw [hk] at hw
 have h3:Yc kd=true∨(Yc kd=false∧Xe kd=true)∨(Yc kd=false∧Xe kd=false∧Z1 kd=true):=by
  cases ha:Yc kd<;>cases hb:Xe kd<;>cases hc:Z1 kd<;>simp_all
 cases hl:JT li
 ·exact (rgood_line kd li di ke l h8 h3 hl w).mono (by simp)
 have l0:decide (li<0)=false:=by simp [JT] at hl ⊢;omega
 have l1:decide (63<li)=false:=by simp [JT] at hl ⊢;omega
 by_cases k3:kd=3
 ·subst k3;exact rgood_3 3 li di ke l h8 rfl rfl rfl rfl rfl rfl rfl rfl l0 l1 w
 by_cases k6:kd=6
 ·subst k6;exact rgood_6 6 li di ke l h8 rfl rfl rfl rfl rfl rfl rfl rfl rfl l0 l1 w
 by_cases k7:kd=7
 ·subst k7;exact rgood_7 7 li di ke l h8 rfl rfl rfl rfl rfl rfl rfl rfl rfl l0 l1 w
 by_cases k8:kd=8
 ·subst k8;exact rgood_8 8 li di ke l h8 rfl rfl rfl rfl rfl rfl rfl rfl rfl rfl l0 l1 w
 by_cases k9:kd=9
 ·subst k9;exact rgood_9 9 li di ke l h8 rfl rfl rfl rfl rfl rfl rfl rfl rfl rfl l0 l1 w
 by_cases k10:kd=10
 ·subst k10;exact rgood_10 10 li di ke l h8 rfl rfl rfl rfl rfl rfl rfl rfl rfl rfl l0 l1 w
 have e1:mayD kd=false:=by simp [mayD,k3,k6,k7]
 have e2:mayK kd=false:=by simp [mayK,k7]
 have e3:mayW kd=false:=by simp [mayW,k8,k9,k10]
 rw [e1,e2,e3]
 exact rgood_n kd li di ke l h8 h3 (by simp [k3]) (by simp [k6]) (by simp [k7]) (by simp [k8]) (by simp [k9]) (by simp [k10]) (by simp [k7]) l0 l1 w
end
section
set_option maxHeartbeats 1000000
set_option maxRecDepth 100000
attribute [local go_sem ↓] QA QQ QH Q8 Zc QS QC Za QN ZB Zk ZI Zv Qm Ql heap_alloc Qo heap_setCell Qb ZF ZM ZK ZN ZL
attribute [local go_sem] Qc Qa Qd Qj Qf Qe Qh Qi Qw ZE QZ Zy ZH QO QG Q6 Q0 Q5 Zi Zz Q9 QM QB QI Zj Q7 Qz QP Qt Qk Qs Qr Qq Qp Qg Ze lit8 Qv ZA Zl Zm
attribute [local simp ↓] Qm Ql heap_alloc Qo heap_setCell Qb
attribute [local simp] Qc Qa Qd Qj Qf Qe Qh Qi Qw QB Qk Qs Qr Qq Qp Qg Qv
theorem msg_info:(Tryz.prog.info? 38).map (fun i=>(i.zero,i.size,i.bytes))=some (some msV,12,88):=by kernel_rfl
theorem Qbm:Elt Tryz.prog 61 38 12 88 msV Ms.enc where
 slice:=Tryz.underlying61
 info:=msg_info
 zero:=msV_size
 zone:=msV_one
 pos:=by omega
 len:=Ms.len
 one:=Ms.one
theorem Qd5 (w:World) (m:Ms):Sl ((w.alloc (.cells (msc m) 38)).drew) 12 (some ⟨w.heap.size,0,none⟩) 1 (cat Ms.enc [m]):=
 ⟨by rw [Zo Ms.len];rfl,.inr ⟨w.heap.size,0,msc m,38,(0,0),rfl,by simp,by rw [JV];simp [msc,Ms.len,List.take_of_length_le]⟩⟩
def Qu (W w:World) (q be:Nat) (xs:List Ms):Prop:=
 Chg [] W w∧Tab W∧W.heap.size≤q∧W.heap.size≤be∧xs.length≤1000∧∃A cap,w.heap[q]? =some (.cells #[.slice A xs.length cap] 135 (0,0))∧Vof 12 38 Ms.enc w q be A cap xs
theorem Qu.keep {W w w':World} {q be:Nat} {xs:List Ms} {l:List Nat} (h:Qu W w q be xs) (hc:Chg l w w') (hl:∀x∈l,W.heap.size≤x) (hq:q∉l) (hb:be∉l):Qu W w' q be xs:=by
 obtain ⟨h1,h2,h3,h4,h5,A,cap,h6,h7⟩:=h
 exact ⟨h1.trans' hc (fun x hx=>.inr (hl x hx)),h2,h3,h4,h5,A,cap,hc.keep h6 hq,h7.keep hc hb⟩
theorem XA {fn:Func} {p t:Tmp} (h:fn.results=#[.cell p 38,.tmp t]) (tmps:Array Value) (w:World) (b:Nat) (m:Ms) (fr:Nat×Nat)
 (hp:tmps.getD p undef=.pointer (some ⟨b,0,none⟩)) (hb:w.heap[b]? =some (.cells (msc m) 38 fr)) (x:Value) (hx:tmps.getD t undef=x):
 (results fn tmps).run Tryz.prog w=.ok (.tuple #[.agg (msc m),x]) w:=by
 subst hx
 have hp':tmps[p]?.getD undef=.pointer (some ⟨b,0,none⟩):=by simpa using hp
 have:=run_loadVar_row (P:=Tryz.prog) w b 38 38 (msc m) fr _ hb Tryz.underlying38 rfl (by rw [Qv];kernel_rfl)
 exact Tz93
theorem Xg:(#[.int .i64 0,.int .i64 0,.bool false,.bool false,.int .u64 0,.int .u64 0,.int .u64 0,.int .u64 0,.int .u64 0,.int .u64 0,.int .u64 0,.int .u64 0]:Array Value)=msc msZ:=rfl
attribute [local go_sem ↓] Xg
attribute [local simp] Xg
theorem Qec:Qfl []=msZ:=rfl
theorem Qbg (x:Ms) (xs:List Ms):Qfl (x::xs)=x:=rfl
end
section
set_option maxHeartbeats 1000000
attribute [local go_sem ↓] QA QQ QH Q8 Zc QS QC Za QN ZB Zk ZI Zv Qm Ql heap_alloc Qo heap_setCell Qb ZF ZM ZK ZN ZL
attribute [local go_sem] Qc Qa Qd Qj Qf Qe Qh Qi Qw ZE QZ Zy ZH QO QG Q6 Q0 Q5 Zi Zz Q9 QM QB QI Zj Q7 Qz QP Qt Qk Qs Qr Qq Qp Qg Ze lit8 Qv ZA Zl Zm
attribute [local simp ↓] Qm Ql heap_alloc Qo heap_setCell Qb
attribute [local simp] Qc Qa Qd Qj Qf Qe Qh Qi Qw QB Qk Qs Qr Qq Qp Qg Qv
theorem line_part (m:Ms) (w:World):(part 36 (msc m) 4).run Tryz.prog w=.ok (.agg (vs m.l)) w:=by
 obtain ⟨i,hi⟩:∃i,Tryz.prog.info? 36=some i:=Option.isSome_iff_exists.1 (by kernel_rfl)
 have hc:Tryz.prog.cellsOf 36=8:=by kernel_rfl
 have he:(msc m).extract 4 (4+8)=vs m.l:=by
  apply Array.ext'
  rw [Array.toList_extract]
  have:=m.h
  simp [msc,Ms.enc,vs,List.extract,List.take_of_length_le,this]
 first
  |(simp [part,isAgg,run_underlying Tryz.underlying36,he];done)
  |(simp [part,isAgg,run_underlying Tryz.underlying36,hc,he];done)
  |(simp [part,isAgg,run_underlying Tryz.underlying36,run_sizeOf w hi,he];done)
theorem msg_same (m:Ms) (w:World):(Op.equalIn 10000 38 (.agg (msc m)) (.agg (msc m))).run Tryz.prog w=.ok true w:=by
 have h0:=run_part_plain (P:=Tryz.prog) w (e:=3) (by kernel_rfl) (ZM m)
 have h1:=run_part_plain (P:=Tryz.prog) w (e:=3) (by kernel_rfl) (ZK m)
 have h2:=run_part_plain (P:=Tryz.prog) w (e:=4) (by kernel_rfl) (ZN m)
 have h3:=run_part_plain (P:=Tryz.prog) w (e:=4) (by kernel_rfl) (ZL m)
 have h4:=line_part m w
 have e0:=fun a=>run_equalIn_int w 9998 3 .i64 .i64 a a Tryz.underlying3
 have e1:=fun a=>run_equalIn_bool w 9998 4 a a Tryz.underlying4
 have e2:(Op.equalIn 9999 36 (.agg (vs m.l)) (.agg (vs m.l))).run Tryz.prog w=.ok true w:=by
  obtain ⟨i0,hi0⟩:∃i,Tryz.prog.info? 34=some i:=Option.isSome_iff_exists.1 (by kernel_rfl)
  rw [run_equalIn_array w 9998 _ _ Tryz.underlying36 hi0,show Tryz.prog.cellsOf 34=1 by kernel_rfl]
  have:=JQ (P:=Tryz.prog) w 9997 (k:=.u64) Tryz.underlying34 (by kernel_rfl) m.l m.l (List.range 8) (by intro i hi;have:=m.h;simp at hi;omega)
  unfold vs
  rw [this]
  simp
 rw [run_equalIn_struct w 9999 38 _ _ (by simp only [Program.fieldsOf,Tryz.underlying38]) (by kernel_rfl)]
 simp only [Program.fieldsOf,Tryz.underlying38]
 simp [Op.eqFields,h0,h1,h2,h3,h4,e0,e1,e2]
attribute [local go_sem ↓] msg_same
theorem Qgj (A B:Option Addr) (n c c':Nat) (xs:List Ms) (w:World) (h1:Sl w 12 A n (cat Ms.enc xs)) (h2:Sl w 12 B n (cat Ms.enc xs)) (hl:n=xs.length) (hn:n≤100000):
 Calls Tryz.prog 66 #[.slice A n c,.slice B n c'] w fun e w'=>e=.returned (.bool true)∧Chg [] w w':=by
 have H1:=Vh h1
 have H2:=Vh h2
 have HL:=Vh hl
 clear h1 h2 hl
 go_enter Tryz.func66,Tryz.ntmps66
 have tn:((n:Int) != (n:Int))=false:=by simp
 go_wp2
 go_loopw [5] (fun i wr=>∃k:Nat,k≤n∧i=.int .i64 k∧Chg [] w wr) (fun i _=>n-(intOf i).toNat)
 case atStart=>exact ⟨0,by omega,rfl,Chg.refl _ _⟩
 case round=>
  obtain ⟨k,hk,rfl,hc⟩:=hrel
  by_cases hlt:k<n
  ·obtain ⟨b,o,rfl⟩:=H1.out.addr (by omega)
   obtain ⟨b',o',rfl⟩:=H2.out.addr (by omega)
   obtain ⟨y,hy⟩:∃y,xs[k]? =some y:=⟨xs[k]'(by rw [←HL.out];exact hlt),List.getElem?_eq_getElem _⟩
   obtain ⟨cs,t,f,hb,_,hpa⟩:=(H1.out.chg hc (by simp)).elem (by omega) hlt (Je Ms.len hy)
   obtain ⟨cs',t',f',hb',_,hpa'⟩:=(H2.out.chg hc (by simp)).elem (by omega) hlt (Je Ms.len hy)
   have e12:((Ms.enc y).drop 0 |>.take 12).toArray=msc y:=by rw [List.drop_zero,List.take_of_length_le (by rw [Ms.len];exact Nat.le_refl _)];rfl
   obtain ⟨r1,r2⟩:=hpa 0 12 (by omega)
   obtain ⟨s1,s2⟩:=hpa' 0 12 (by omega)
   rw [e12,Nat.add_zero] at r2 s2
   rw [Nat.add_zero] at r1 s1
   have g1:(k:Int)<(n:Int):=by omega
   have g0:(0:Int)≤(k:Int):=by omega
   have g2:(n:Int)≤100000:=by omega
   have HC:=Vh hc
   clear hy hc hpa hpa' e12
   go_wp2
   go_quiet (fail)
   go_wp2
   go_roundw
   case rel=>exact ⟨k+1,by omega,by go_num,HC.out.drewN _⟩
   case measure=>simp [intOf];omega
  ·have:k=n:=by omega
   subst this
   go_wp2
   go_ret
   exact ⟨rfl,hc⟩
end
end Go.Proofs.YtadeoflkppiflaaGreatDoor
