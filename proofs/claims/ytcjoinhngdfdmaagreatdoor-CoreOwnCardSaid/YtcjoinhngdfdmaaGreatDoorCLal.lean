/- Texts of the walk, one behind the other: Alu Alub Cop Cor Isa Isb Rea. No condition. -/
import Derived.Test.YtcjoinhngdfdmaaGreatDoorCLaa
import Derived.Test.YtcjoinhngdfdmaaGreatDoorCLak
import Derived.BigQuiet
import Derived.Deep.QuietTactic
import Derived.Laws.Bits64b
import Derived.Lib.Hide
import Derived.Maps.OwnOps
import Derived.Test.YtcjoinhngdfdmaaGreatDoorChecked
import Derived.WalkKit
namespace Go.Proofs.YtcjoinhngdfdmaaGreatDoor
open Go.RowKit
set_option linter.unusedVariables false
set_option maxHeartbeats 1000000
section
def opRow (r g:Value):Value:=.agg #[r,g]
def fnv (n:Nat):Value:=.func (.func n) #[] #[]
def opKey:Nat→Int
 |0=>2|1=>3|2=>4|3=>5|4=>6|5=>7|6=>17|7=>18|8=>19|_=>20
def opVal:Nat→Value
 |0=>opRow (fnv 127) .nilFunc|1=>opRow (fnv 128) .nilFunc|2=>opRow (fnv 129) .nilFunc
 |3=>opRow (fnv 130) .nilFunc|4=>opRow (fnv 131) .nilFunc|5=>opRow (fnv 132) .nilFunc
 |6=>opRow .nilFunc (fnv 133)|7=>opRow .nilFunc (fnv 134)|8=>opRow .nilFunc (fnv 135)|_=>opRow .nilFunc (fnv 136)
def tbl:Nat→Array MapEntry
 |0=>#[]
 |j+1=>(tbl j).push {key:=.int .i64 (opKey j),val:=opVal j,born:=j}
def mapW (W:World) (j:Nat):World:=W.alloc (.map (tbl j) j)
theorem mapW_made (W:World):(Instr.makeMap 177 none).run Tryz.prog W=.ok (.map (some W.heap.size)) (mapW W 0):=rfl
theorem alloc_set (W:World) (a b:Obj):({W.alloc a with heap:=(W.alloc a).heap.setIfInBounds W.heap.size b}:World)=W.alloc b:=by
 refine World.ext_heap ?_ rfl rfl rfl rfl
 show (W.heap.push a).setIfInBounds W.heap.size b=W.heap.push b
 apply Array.ext'
 rw [Array.toList_setIfInBounds,Array.toList_push,Array.toList_push,←Array.length_toList,List.set_append_right _ _ (Nat.le_refl _)]
 simp
theorem mapW_at (W:World) (j:Nat):(mapW W j).heap[W.heap.size]? =some (.map (tbl j) j):=(MapKept.heap_alloc W _).1
theorem under_map (w:World):(underlying 177).run Tryz.prog w=.ok (.map 3 176) w:=run_underlying Tryz.underlying177 w
theorem check_int (k:Int) (e:Bool) (w:World):(Instr.checkKey e 10000 3 (.int .i64 k)).run Tryz.prog w=.ok () w:=MapKept.run_checkKey (d:=.int .i64) (k:=.int .i64 k) Tryz.underlying3 (by simp [MapKept.IsKey]) e 9999
theorem mapW_put (W:World) (j:Nat) (k:Int) (v:Value) (hk:opKey j=k) (hv:opVal j=v) (h:Instr.findNow (.int .i64) (.int .i64 k) (tbl j).toList 0=some none):
 (Instr.mapUpdate 177 (.map (some W.heap.size)) (.int .i64 k) v).run Tryz.prog (mapW W j)=.ok () (mapW W (j+1)):=by
 subst hk hv
 have hb:=mapW_at W j
 have h2:∀w,(Instr.findKey 3 (.int .i64 (opKey j)) (tbl j).toList).run Tryz.prog w=.ok none w:=fun w=>MapKept.run_findKey Tryz.underlying3 h
 simp only [Instr.mapUpdate,Sem.run_bind,under_map,Result.andThen,getObj,Sem.run,hb,check_int,h2,setObj]
 exact congrArg (Result.ok ()) (alloc_set W (.map (tbl j) j) _)
theorem put0 (W:World):(Instr.mapUpdate 177 (.map (some W.heap.size)) (.int .i64 2) (.agg #[(.func (.func 127) #[] #[]),.nilFunc])).run Tryz.prog (mapW W 0)=.ok () (mapW W 1):=mapW_put W 0 2 _ rfl rfl rfl
theorem put1 (W:World):(Instr.mapUpdate 177 (.map (some W.heap.size)) (.int .i64 3) (.agg #[(.func (.func 128) #[] #[]),.nilFunc])).run Tryz.prog (mapW W 1)=.ok () (mapW W 2):=mapW_put W 1 3 _ rfl rfl rfl
theorem put2 (W:World):(Instr.mapUpdate 177 (.map (some W.heap.size)) (.int .i64 4) (.agg #[(.func (.func 129) #[] #[]),.nilFunc])).run Tryz.prog (mapW W 2)=.ok () (mapW W 3):=mapW_put W 2 4 _ rfl rfl rfl
theorem put3 (W:World):(Instr.mapUpdate 177 (.map (some W.heap.size)) (.int .i64 5) (.agg #[(.func (.func 130) #[] #[]),.nilFunc])).run Tryz.prog (mapW W 3)=.ok () (mapW W 4):=mapW_put W 3 5 _ rfl rfl rfl
theorem put4 (W:World):(Instr.mapUpdate 177 (.map (some W.heap.size)) (.int .i64 6) (.agg #[(.func (.func 131) #[] #[]),.nilFunc])).run Tryz.prog (mapW W 4)=.ok () (mapW W 5):=mapW_put W 4 6 _ rfl rfl rfl
theorem put5 (W:World):(Instr.mapUpdate 177 (.map (some W.heap.size)) (.int .i64 7) (.agg #[(.func (.func 132) #[] #[]),.nilFunc])).run Tryz.prog (mapW W 5)=.ok () (mapW W 6):=mapW_put W 5 7 _ rfl rfl rfl
theorem put6 (W:World):(Instr.mapUpdate 177 (.map (some W.heap.size)) (.int .i64 17) (.agg #[.nilFunc,(.func (.func 133) #[] #[])])).run Tryz.prog (mapW W 6)=.ok () (mapW W 7):=mapW_put W 6 17 _ rfl rfl rfl
theorem put7 (W:World):(Instr.mapUpdate 177 (.map (some W.heap.size)) (.int .i64 18) (.agg #[.nilFunc,(.func (.func 134) #[] #[])])).run Tryz.prog (mapW W 7)=.ok () (mapW W 8):=mapW_put W 7 18 _ rfl rfl rfl
theorem put8 (W:World):(Instr.mapUpdate 177 (.map (some W.heap.size)) (.int .i64 19) (.agg #[.nilFunc,(.func (.func 135) #[] #[])])).run Tryz.prog (mapW W 8)=.ok () (mapW W 9):=mapW_put W 8 19 _ rfl rfl rfl
theorem put9 (W:World):(Instr.mapUpdate 177 (.map (some W.heap.size)) (.int .i64 20) (.agg #[.nilFunc,(.func (.func 136) #[] #[])])).run Tryz.prog (mapW W 9)=.ok () (mapW W 10):=mapW_put W 9 20 _ rfl rfl rfl
theorem ops_any (W:World):Calls Tryz.prog 79 #[] W fun e w'=>e=.returned (.map (some W.heap.size))∧w'=mapW W 10:=by
 have hm:=mapW_made
 have h0:=put0 W
 have h1:=put1 W
 have h2:=put2 W
 have h3:=put3 W
 have h4:=put4 W
 have h5:=put5 W
 have h6:=put6 W
 have h7:=put7 W
 have h8:=put8 W
 have h9:=put9 W
 go_enter Tryz.func79,Tryz.ntmps79
 go_wp2_with fail
 go_ret
 exact ⟨rfl,rfl⟩
def recF (op:Int):Value:=if op=2 then .func (.func 127) #[] #[] else if op=3 then .func (.func 128) #[] #[] else if op=4 then .func (.func 129) #[] #[] else if op=5 then .func (.func 130) #[] #[] else if op=6 then .func (.func 131) #[] #[] else if op=7 then .func (.func 132) #[] #[] else .nilFunc
def goF (op:Int):Value:=if op=17 then .func (.func 133) #[] #[] else if op=18 then .func (.func 134) #[] #[] else if op=19 then .func (.func 135) #[] #[] else if op=20 then .func (.func 136) #[] #[] else .nilFunc
theorem tbl10:(tbl 10).toList=[
 {key:=.int .i64 2,val:=.agg #[.func (.func 127) #[] #[],.nilFunc],born:=0},
 {key:=.int .i64 3,val:=.agg #[.func (.func 128) #[] #[],.nilFunc],born:=1},
 {key:=.int .i64 4,val:=.agg #[.func (.func 129) #[] #[],.nilFunc],born:=2},
 {key:=.int .i64 5,val:=.agg #[.func (.func 130) #[] #[],.nilFunc],born:=3},
 {key:=.int .i64 6,val:=.agg #[.func (.func 131) #[] #[],.nilFunc],born:=4},
 {key:=.int .i64 7,val:=.agg #[.func (.func 132) #[] #[],.nilFunc],born:=5},
 {key:=.int .i64 17,val:=.agg #[.nilFunc,.func (.func 133) #[] #[]],born:=6},
 {key:=.int .i64 18,val:=.agg #[.nilFunc,.func (.func 134) #[] #[]],born:=7},
 {key:=.int .i64 19,val:=.agg #[.nilFunc,.func (.func 135) #[] #[]],born:=8},
 {key:=.int .i64 20,val:=.agg #[.nilFunc,.func (.func 136) #[] #[]],born:=9}]:=rfl
theorem zero_op (w:World):(zeroValue 176).run Tryz.prog w=.ok (.agg #[.nilFunc,.nilFunc]) w:=by kernel_rfl
theorem look_some {op:Int} {W:World} {b i:Nat} {v:Value} (hb:W.heap[b]? =some (.map (tbl 10) 10)) (h:Instr.findNow (.int .i64) (.int .i64 op) (tbl 10).toList 0=some (some (i,v))):
 (Instr.lookup 177 (.map (some b)) (.int .i64 op) false).run Tryz.prog W=.ok v W:=by
 have h2:∀w,(Instr.findKey 3 (.int .i64 op) (tbl 10).toList).run Tryz.prog w=.ok (some (i,v)) w:=fun w=>MapKept.run_findKey Tryz.underlying3 h
 simp only [Instr.lookup,Sem.run_bind,under_map,Result.andThen,getObj,Sem.run,hb,check_int,Sem.run_pure,h2]
 rfl
theorem look_none {op:Int} {W:World} {b:Nat} (hb:W.heap[b]? =some (.map (tbl 10) 10)) (h:Instr.findNow (.int .i64) (.int .i64 op) (tbl 10).toList 0=some none):
 (Instr.lookup 177 (.map (some b)) (.int .i64 op) false).run Tryz.prog W=.ok (.agg #[.nilFunc,.nilFunc]) W:=by
 have h2:∀w,(Instr.findKey 3 (.int .i64 op) (tbl 10).toList).run Tryz.prog w=.ok none w:=fun w=>MapKept.run_findKey Tryz.underlying3 h
 simp only [Instr.lookup,Sem.run_bind,under_map,Result.andThen,getObj,Sem.run,hb,check_int,Sem.run_pure,h2,zero_op]
 rfl
theorem look_op (op:Int) (W:World) (b:Nat) (hb:W.heap[b]? =some (.map (tbl 10) 10)):(Instr.lookup 177 (.map (some b)) (.int .i64 op) false).run Tryz.prog W=.ok (.agg #[recF op,goF op]) W:=by
 by_cases h2:op=2
 ·subst h2;exact look_some hb rfl
 by_cases h3:op=3
 ·subst h3;exact look_some hb rfl
 by_cases h4:op=4
 ·subst h4;exact look_some hb rfl
 by_cases h5:op=5
 ·subst h5;exact look_some hb rfl
 by_cases h6:op=6
 ·subst h6;exact look_some hb rfl
 by_cases h7:op=7
 ·subst h7;exact look_some hb rfl
 by_cases h17:op=17
 ·subst h17;exact look_some hb rfl
 by_cases h18:op=18
 ·subst h18;exact look_some hb rfl
 by_cases h19:op=19
 ·subst h19;exact look_some hb rfl
 by_cases h20:op=20
 ·subst h20;exact look_some hb rfl
 rw [show recF op=.nilFunc by simp [recF,h2,h3,h4,h5,h6,h7],show goF op=.nilFunc by simp [goF,h17,h18,h19,h20]]
 refine look_none hb ?_
 rw [tbl10]
 have e2:(op==2)=false:=by simpa using h2
 have e3:(op==3)=false:=by simpa using h3
 have e4:(op==4)=false:=by simpa using h4
 have e5:(op==5)=false:=by simpa using h5
 have e6:(op==6)=false:=by simpa using h6
 have e7:(op==7)=false:=by simpa using h7
 have e17:(op==17)=false:=by simpa using h17
 have e18:(op==18)=false:=by simpa using h18
 have e19:(op==19)=false:=by simpa using h19
 have e20:(op==20)=false:=by simpa using h20
 simp only [Instr.findNow,Instr.sameNow,if_pos,e2,e3,e4,e5,e6,e7,e17,e18,e19,e20]
theorem look_map (op:Int) (W:World):(Instr.lookup 177 (.map (some W.heap.size)) (.int .i64 op) false).run Tryz.prog (mapW W 10)=.ok (.agg #[recF op,goF op]) (mapW W 10):=look_op op _ _ (mapW_at W 10)
theorem Chg.mapW (W:World) (j:Nat):Chg [] W (mapW W j):=(Chg.refl [] W).alloc _
end
section
theorem fjmp (x y:Int) (w:World):Calls Tryz.prog 133 #[.int .u64 x,.int .u64 y] w fun e w'=>e=.returned (.bool (true))∧w=w':=by
 go_enter Tryz.func133,Tryz.ntmps133
 go_wp2
 go_ret
 exact ⟨rfl,rfl⟩
theorem feq (x y:Int) (w:World):Calls Tryz.prog 134 #[.int .u64 x,.int .u64 y] w fun e w'=>e=.returned (.bool (x==y))∧w=w':=by
 go_enter Tryz.func134,Tryz.ntmps134
 go_wp2
 go_ret
 exact ⟨rfl,rfl⟩
theorem fne (x y:Int) (w:World):Calls Tryz.prog 135 #[.int .u64 x,.int .u64 y] w fun e w'=>e=.returned (.bool (x !=y))∧w=w':=by
 go_enter Tryz.func135,Tryz.ntmps135
 go_wp2
 go_ret
 exact ⟨rfl,rfl⟩
theorem flt (x y:Int) (w:World):Calls Tryz.prog 136 #[.int .u64 x,.int .u64 y] w fun e w'=>e=.returned (.bool (decide (x<y)))∧w=w':=by
 go_enter Tryz.func136,Tryz.ntmps136
 go_wp2
 go_ret
 exact ⟨rfl,rfl⟩
def doV (op b c:Int):Int:=if op=2 then IntKind.u64.wrap (b+c) else if op=3 then IntKind.u64.wrap (b-c) else if op=4 then bits .and .u64 b c else if op=5 then bits .xor .u64 b c else if op=6 then IntKind.u64.wrap (b*2 ^ (c % 64).toNat) else if op=7 then b / 2 ^ (c % 64).toNat else 0
def goV (op a b:Int):Bool:=if op=17 then true else if op=18 then a==b else if op=19 then a !=b else if op=20 then decide (a<b) else false
def goK (op:Int):Bool:=decide (op=17∨op=18∨op=19∨op=20)
theorem field_g (r g:Value) (w:World):(Instr.field 176 (.agg #[r,g]) 1).run Tryz.prog w=.ok g w:=by kernel_rfl
theorem some_g (n:Nat) (w:World):(binOp .eql 174 (.func (.func n) #[] #[]) .nilFunc).run Tryz.prog w=.ok (.bool false) w:=by kernel_rfl
theorem nil_g (w:World):(binOp .eql 174 .nilFunc .nilFunc).run Tryz.prog w=.ok (.bool true) w:=by kernel_rfl
theorem ggo_any (op a b:Int) (w:World):Calls Tryz.prog 80 #[.int .i64 op,.int .u64 a,.int .u64 b] w fun e w'=>e=.returned (.tuple #[.bool (goV op a b),.bool (goK op)])∧w'=mapW w 10:=by
 have hl:=look_map op w
 by_cases h17:op=17
 ·subst h17
  rw [show goF 17=.func (.func 133) #[] #[] from rfl] at hl
  have hf:=field_g (recF 17) (.func (.func 133) #[] #[]) (mapW w 10)
  have hn:=some_g 133 (mapW w 10)
  go_enter Tryz.func80,Tryz.ntmps80
  go_wp2_with (first |(go_at_call 79;refine (ops_any _).mono ?_;rintro e w' ⟨rfl,rfl⟩)|(go_at_call 133;refine (fjmp _ _ _).mono ?_;rintro e w' ⟨rfl,rfl⟩))
  go_ret2
  exact ⟨rfl,rfl⟩
 by_cases h18:op=18
 ·subst h18
  rw [show goF 18=.func (.func 134) #[] #[] from rfl] at hl
  have hf:=field_g (recF 18) (.func (.func 134) #[] #[]) (mapW w 10)
  have hn:=some_g 134 (mapW w 10)
  go_enter Tryz.func80,Tryz.ntmps80
  go_wp2_with (first |(go_at_call 79;refine (ops_any _).mono ?_;rintro e w' ⟨rfl,rfl⟩)|(go_at_call 134;refine (feq _ _ _).mono ?_;rintro e w' ⟨rfl,rfl⟩))
  go_ret2
  exact ⟨rfl,rfl⟩
 by_cases h19:op=19
 ·subst h19
  rw [show goF 19=.func (.func 135) #[] #[] from rfl] at hl
  have hf:=field_g (recF 19) (.func (.func 135) #[] #[]) (mapW w 10)
  have hn:=some_g 135 (mapW w 10)
  go_enter Tryz.func80,Tryz.ntmps80
  go_wp2_with (first |(go_at_call 79;refine (ops_any _).mono ?_;rintro e w' ⟨rfl,rfl⟩)|(go_at_call 135;refine (fne _ _ _).mono ?_;rintro e w' ⟨rfl,rfl⟩))
  go_ret2
  exact ⟨rfl,rfl⟩
 by_cases h20:op=20
 ·subst h20
  rw [show goF 20=.func (.func 136) #[] #[] from rfl] at hl
  have hf:=field_g (recF 20) (.func (.func 136) #[] #[]) (mapW w 10)
  have hn:=some_g 136 (mapW w 10)
  go_enter Tryz.func80,Tryz.ntmps80
  go_wp2_with (first |(go_at_call 79;refine (ops_any _).mono ?_;rintro e w' ⟨rfl,rfl⟩)|(go_at_call 136;refine (flt _ _ _).mono ?_;rintro e w' ⟨rfl,rfl⟩))
  go_ret2
  exact ⟨rfl,rfl⟩
 rw [show goF op=.nilFunc by simp [goF,h17,h18,h19,h20]] at hl
 rw [show goV op a b=false by simp [goV,h17,h18,h19,h20],show goK op=false by simp [goK,h17,h18,h19,h20]]
 have hf:=field_g (recF op) .nilFunc (mapW w 10)
 have hn:=nil_g (mapW w 10)
 clear h17 h18 h19 h20
 go_enter Tryz.func80,Tryz.ntmps80
 go_wp2_with (go_at_call 79;refine (ops_any _).mono ?_;rintro e w' ⟨rfl,rfl⟩)
 go_ret2
 exact ⟨rfl,rfl⟩
theorem gsum_any (b k:Int) (w:World):Calls Tryz.prog 82 #[.int .u64 b,.int .i64 k] w fun e w'=>e=.returned (.int .u64 (IntKind.u64.wrap (b+IntKind.u64.wrap k)))∧w=w':=by
 go_enter Tryz.func82,Tryz.ntmps82
 go_wp2
 go_ret
 exact ⟨rfl,rfl⟩
end
section
structure Ins where
 op:Int
 a:Int
 b:Int
 c:Int
 im:Int
deriving DecidableEq
def insZ:Ins:=⟨0,0,0,0,0⟩
def Ins.enc (i:Ins):List Value:=[.int .i64 i.op,.int .i64 i.a,.int .i64 i.b,.int .i64 i.c,.int .i64 i.im]
def insc (i:Ins):Array Value:=(Ins.enc i).toArray
def hasA (op:Int):Bool:=(decide (1≤op)&&decide (op≤11))||(decide (18≤op)&&decide (op≤21))
def hasB (op:Int):Bool:=(decide (2≤op)&&decide (op≤14))||(decide (18≤op)&&decide (op≤20))
def hasC (op:Int):Bool:=(decide (2≤op)&&decide (op≤7))||(decide (10≤op)&&decide (op≤11))
def hasI (op:Int):Bool:=op==1||(decide (8≤op)&&decide (op≤9))||(decide (12≤op)&&decide (op≤14))||(decide (17≤op)&&decide (op≤20))
def jumpB (op:Int):Bool:=decide (17≤op)&&decide (op≤20)
def isOpB (op:Int):Bool:=decide (0≤op)&&decide (op≤22)
def goodR (r:Int) (has:Bool):Bool:=if has then decide (0≤r)&&decide (r<8) else r==0
def goodMb (im:Int) (hi jb:Bool):Bool:=if hi then (if jb&&decide (im<0) then false else decide (-2147483648≤im)&&decide (im≤2147483647)) else im==0
def goodM (im:Int) (op:Int):Bool:=goodMb im (hasI op) (jumpB op)
def goodI (i:Ins):Bool:=isOpB i.op&&(goodR i.a (hasA i.op)&&(goodR i.b (hasB i.op)&&(goodR i.c (hasC i.op)&&goodM i.im i.op)))
def codeI (i:Ins):Int:=i.op+i.a*256+i.b*4096+i.c*65536+(i.im % 4294967296)*4294967296
def imOf (h:Int):Int:=if h<2147483648 then h else h- 4294967296
def insOf (u:Int):Ins:=⟨u % 256,u / 256 % 16,u / 4096 % 16,u / 65536 % 16,imOf (u / 4294967296)⟩
def decB (u:Int):Bool:=goodI (insOf u)&&codeI (insOf u)==u
def decI (u:Int):Ins:=if decB u then insOf u else insZ
theorem goodR_le {r:Int} {h:Bool} (g:goodR r h=true):0≤r∧r<8:=by
 unfold goodR at g
 split at g<;>simp at g<;>omega
theorem goodM_le {m op:Int} (g:goodM m op=true): -2147483648≤m∧m≤2147483647:=by
 unfold goodM goodMb at g
 split at g
 ·split at g
  ·cases g
  ·simp at g;omega
 ·simp at g;omega
theorem goodI_parts {i:Ins} (g:goodI i=true):(0≤i.op∧i.op≤22)∧(0≤i.a∧i.a<8)∧(0≤i.b∧i.b<8)∧(0≤i.c∧i.c<8)∧ -2147483648≤i.im∧i.im≤2147483647:=by
 simp only [goodI,isOpB,Bool.and_eq_true,decide_eq_true_eq] at g
 obtain ⟨h1,h2,h3,h4,h5⟩:=g
 exact ⟨h1,goodR_le h2,goodR_le h3,goodR_le h4,goodM_le h5⟩
theorem dec_code {i:Ins} (g:goodI i=true):insOf (codeI i)=i∧decB (codeI i)=true∧0≤codeI i∧codeI i<18446744073709551616:=by
 have ⟨h1,h2,h3,h4,h5⟩:=goodI_parts g
 have e:insOf (codeI i)=i:=by
  obtain ⟨op,a,b,c,im⟩:=i
  simp only at h1 h2 h3 h4 h5
  unfold insOf codeI imOf
  simp only [Ins.mk.injEq]
  have hm:(op+a*256+b*4096+c*65536+(im % 4294967296)*4294967296) / 4294967296=im % 4294967296:=by omega
  rw [hm]
  refine ⟨by omega,by omega,by omega,by omega,?_⟩
  split<;>omega
 refine ⟨e,?_,?_,?_⟩
 ·unfold decB
  rw [e,g]
  simp
 ·unfold codeI;omega
 ·unfold codeI;omega
structure Co where
 id:Int
 ru:Bool
 rg:List Int
 pr:List (Int×Bool)
 pc:Nat
 rm:Nat
 es:List Se
 wt:Nat
def regN (rg:List Int) (a:Nat):Int:=rg.getD a 0
def regA (Q:Co) (r:Int):Int:=regN Q.rg r.toNat
def setR (Q:Co) (r v:Int):Co:={Q with rg:=Q.rg.set r.toNat v}
def nextC (Q:Co):Co:={Q with pc:=Q.pc+1}
def stopC (Q:Co):Co:={Q with ru:=false}
def evC (Q:Co) (kd li wo va:Int):Ev:=⟨kd,Q.id,li,wo,va⟩
def settledB (Q:Co):Bool:=Q.es.isEmpty&&Q.wt==0
structure Did13 where
 S:Mst
 Q:Co
 ev:List Ev
def addrI (Q:Co) (i:Ins):Int:=IntKind.u64.wrap (regA Q i.b+IntKind.u64.wrap i.im)
def atB (li ad:Int):Bool:=ad % 8==0&&decide (ad / 64<li)
def lineOf (ad:Int):Int:=ad / 64
def wordOf (ad:Int):Int:=ad % 64 / 8
def loadC (c:Cg) (S:Mst) (Q:Co) (a li wo:Int):Did13:=
 match fdO Q.es li wo with
 |some e=>⟨S,nextC (setR Q a e.va),[evC Q 2 li wo e.va]⟩
 |none=>if (loadM c S Q.id li wo).2.hit then ⟨(loadM c S Q.id li wo).1,nextC (setR Q a (loadM c S Q.id li wo).2.v),[evC Q 1 li wo (loadM c S Q.id li wo).2.v]⟩ else ⟨(loadM c S Q.id li wo).1,Q,[]⟩
def putC (S:Mst) (Q:Co) (kd:Int) (e:Se):Did13:=
 if sbV Q.rm Q.es e=0 then ⟨S,nextC {Q with es:=sbE Q.rm Q.es e},[evC Q kd e.li e.wo e.va]⟩ else ⟨S,Q,[]⟩
def chgV (Q:Co) (i:Ins) (old:Int):Int:=if i.op=10 then regA Q i.c else IntKind.u64.wrap (old+regA Q i.c)
def chgB (Q:Co) (i:Ins) (old:Int):Bool:=if i.op=10 then old==regA Q i.a else true
def changeC (c:Cg) (S:Mst) (Q:Co) (i:Ins) (li wo:Int):Did13:=
 if settledB Q then
  if (reachM c S Q.id li).2.hit then
   if chgB Q i (loadM c (reachM c S Q.id li).1 Q.id li wo).2.v then
    ⟨(storeM c (loadM c (reachM c S Q.id li).1 Q.id li wo).1 Q.id li wo (chgV Q i (loadM c (reachM c S Q.id li).1 Q.id li wo).2.v)).1,nextC (setR Q i.a (loadM c (reachM c S Q.id li).1 Q.id li wo).2.v),[evC Q 4 li wo (loadM c (reachM c S Q.id li).1 Q.id li wo).2.v,evC Q 3 li wo (chgV Q i (loadM c (reachM c S Q.id li).1 Q.id li wo).2.v)]⟩
   else ⟨(loadM c (reachM c S Q.id li).1 Q.id li wo).1,nextC (setR Q i.a (loadM c (reachM c S Q.id li).1 Q.id li wo).2.v),[evC Q 4 li wo (loadM c (reachM c S Q.id li).1 Q.id li wo).2.v]⟩
  else ⟨(reachM c S Q.id li).1,Q,[]⟩
 else ⟨S,Q,[]⟩
def accessC (c:Cg) (S:Mst) (Q:Co) (i:Ins):Did13:=
 if atB c.li (addrI Q i) then
  if i.op=8 then loadC c S Q i.a (lineOf (addrI Q i)) (wordOf (addrI Q i))
  else if i.op=9 then putC S Q 12 ⟨9,lineOf (addrI Q i),wordOf (addrI Q i),regA Q i.a,false⟩
  else if i.op=10∨i.op=11 then changeC c S Q i (lineOf (addrI Q i)) (wordOf (addrI Q i))
  else putC S Q 14 ⟨i.op,lineOf (addrI Q i),0,0,false⟩
 else ⟨S,stopC Q,[evC Q 10 0 0 0]⟩
def insC (c:Cg) (S:Mst) (Q:Co) (i:Ins):Did13:=
 if i.op=0 then ⟨S,nextC Q,[]⟩
 else if i.op=1 then ⟨S,nextC (setR Q i.a (IntKind.u64.wrap i.im)),[]⟩
 else if i.op≤7 then ⟨S,nextC (setR Q i.a (doV i.op (regA Q i.b) (regA Q i.c))),[]⟩
 else if 17≤i.op∧i.op≤20 then ⟨S,(if goV i.op (regA Q i.a) (regA Q i.b) then {Q with pc:=i.im.toNat} else nextC Q),[]⟩
 else if i.op=21 then ⟨S,nextC Q,[evC Q 8 0 0 (regA Q i.a)]⟩
 else if i.op=22 then ⟨S,stopC Q,[evC Q 9 0 0 0]⟩
 else if i.op=15∨i.op=16 then (if settledB Q then ⟨S,nextC Q,[evC Q 7 0 0 0]⟩ else ⟨S,Q,[]⟩)
 else accessC c S Q i
def readC (Q:Co) (u:Int):Co:={Q with pr:=Q.pr.set Q.pc (u,true)}
def execC (c:Cg) (S:Mst) (Q:Co):Did13:=
 if Q.ru then
  match Q.pr[Q.pc]? with
  |none=>⟨S,stopC Q,[evC Q 10 0 0 0]⟩
  |some (u,_)=>if decB u then insC c S (readC Q u) (insOf u) else ⟨S,stopC (readC Q u),[evC Q 10 0 0 0]⟩
 else ⟨S,Q,[]⟩
def askedK (kd:Int):Int:=if kd=12 then 4 else 5
def drainC (c:Cg) (S:Mst) (Q:Co):Did13:=
 match Q.es with
 |[]=>⟨S,Q,[]⟩
 |e::rest=>
  if e.kd=9 then
   if (storeM c S Q.id e.li e.wo e.va).2.hit then ⟨(storeM c S Q.id e.li e.wo e.va).1,{Q with es:=rest},[evC Q 3 e.li e.wo e.va]⟩ else ⟨(storeM c S Q.id e.li e.wo e.va).1,Q,[]⟩
  else if e.sn then (if Q.wt=0 then ⟨S,{Q with es:=rest},[]⟩ else ⟨S,Q,[]⟩)
  else if 16≤Q.wt then ⟨S,Q,[]⟩
  else if (flushM c S Q.id e.li (askedK e.kd)).2.e=0 then ⟨(flushM c S Q.id e.li (askedK e.kd)).1,{Q with es:=(if e.kd=14 then sent e::rest else rest),wt:=Q.wt+1},[evC Q 13 e.li 0 0]⟩
  else ⟨(flushM c S Q.id e.li (askedK e.kd)).1,Q,[]⟩
def hearC (Q:Co) (m:Ms):Co×List Ev:=
 if Q.wt=0∨m.kd≠14 then (Q,[]) else ({Q with wt:=Q.wt-1},[evC Q 6 m.li 0 0])
end
section
theorem Ins.len (i:Ins):(Ins.enc i).length=5:=rfl
theorem Ins.one (i:Ins):∀v∈Ins.enc i,v.oneCell'=true:=by
 intro v hv
 simp only [Ins.enc,List.mem_cons,List.not_mem_nil,or_false] at hv
 rcases hv with rfl|rfl|rfl|rfl|rfl<;>rfl
theorem insc_size (i:Ins):(insc i).size=5:=by simp [insc,Ins.enc]
theorem insc_one (i:Ins):allOne (insc i):=allOne_list _ (List.all_eq_true.2 (Ins.one i))
theorem insc_op (i:Ins):(insc i)[0]? =some (.int .i64 i.op):=rfl
theorem insc_a (i:Ins):(insc i)[1]? =some (.int .i64 i.a):=rfl
theorem insc_b (i:Ins):(insc i)[2]? =some (.int .i64 i.b):=rfl
theorem insc_c (i:Ins):(insc i)[3]? =some (.int .i64 i.c):=rfl
theorem insc_im (i:Ins):(insc i)[4]? =some (.int .i64 i.im):=rfl
theorem insc_lit (o a b c m:Int):(#[.int .i64 o,.int .i64 a,.int .i64 b,.int .i64 c,.int .i64 m]:Array Value)=insc ⟨o,a,b,c,m⟩:=rfl
theorem insc_z:insc ⟨0,0,0,0,0⟩=insc insZ:=rfl
theorem insc_set0 (i:Ins) (v:Int):(insc i).setIfInBounds 0 (.int .i64 v)=insc ⟨v,i.a,i.b,i.c,i.im⟩:=by simp [insc,Ins.enc]
theorem insc_set1 (i:Ins) (v:Int):(insc i).setIfInBounds 1 (.int .i64 v)=insc ⟨i.op,v,i.b,i.c,i.im⟩:=by simp [insc,Ins.enc]
theorem insc_set2 (i:Ins) (v:Int):(insc i).setIfInBounds 2 (.int .i64 v)=insc ⟨i.op,i.a,v,i.c,i.im⟩:=by simp [insc,Ins.enc]
theorem insc_set3 (i:Ins) (v:Int):(insc i).setIfInBounds 3 (.int .i64 v)=insc ⟨i.op,i.a,i.b,v,i.im⟩:=by simp [insc,Ins.enc]
theorem insc_set4 (i:Ins) (v:Int):(insc i).setIfInBounds 4 (.int .i64 v)=insc ⟨i.op,i.a,i.b,i.c,v⟩:=by simp [insc,Ins.enc]
theorem insZ_op:insZ.op=0:=rfl
theorem insZ_a:insZ.a=0:=rfl
theorem insZ_b:insZ.b=0:=rfl
theorem insZ_c:insZ.c=0:=rfl
theorem insZ_im:insZ.im=0:=rfl
theorem insc_ne (i:Ins):(insc i=#[])=False:=eq_false (fun h=>by have:=congrArg Array.size h;rw [insc_size] at this;cases this)
def stI (x:Int×Bool):Ins:=if x.2 then decI x.1 else insZ
def stG (x:Int×Bool):Bool:=x.2&&decB x.1
def stD (x:Int×Bool):Int:=if x.2 then 1 else 0
def coc (id:Int) (ru:Bool) (rg:List Int) (pb np:Nat) (pc:Int) (qb:Nat) (wt:Int):Array Value:=
 (.int .i64 id::.bool ru::(rg.map (Value.int .u64)++[.slice (some ⟨pb,0,none⟩) np np,.int .i64 pc,.pointer (some ⟨qb,0,none⟩),.int .i64 wt])).toArray
section
variable {rg:List Int} (h8:rg.length=8) (id:Int) (ru:Bool) (pb np:Nat) (pc:Int) (qb:Nat) (wt:Int)
theorem coc_id:(coc id ru rg pb np pc qb wt)[0]? =some (.int .i64 id):=by simp [coc]
theorem coc_ru:(coc id ru rg pb np pc qb wt)[1]? =some (.bool ru):=by simp [coc]
theorem coc_setRu (v:Bool):(coc id ru rg pb np pc qb wt).setIfInBounds 1 (.bool v)=coc id v rg pb np pc qb wt:=by simp [coc]
include h8
theorem coc_size:(coc id ru rg pb np pc qb wt).size=14:=by simp [coc,h8]
theorem coc_reg {a:Nat} (ha:a<8):(coc id ru rg pb np pc qb wt)[2+a]? =some (.int .u64 (regN rg a)):=by
 unfold coc regN
 rw [Nat.add_comm 2,List.getElem?_toArray,List.getElem?_cons_succ,List.getElem?_cons_succ,List.getElem?_append_left (by simp [h8];exact ha),List.getElem?_map]
 rw [List.getElem?_eq_getElem (by omega),List.getD_eq_getElem?_getD,List.getElem?_eq_getElem (by omega)]
 rfl
theorem coc_pr:(coc id ru rg pb np pc qb wt)[10]? =some (.slice (some ⟨pb,0,none⟩) np np):=by
 unfold coc
 rw [List.getElem?_toArray,List.getElem?_cons_succ,List.getElem?_cons_succ,List.getElem?_append_right (by simp [h8])]
 simp [h8]
theorem coc_pc:(coc id ru rg pb np pc qb wt)[11]? =some (.int .i64 pc):=by
 unfold coc
 rw [List.getElem?_toArray,List.getElem?_cons_succ,List.getElem?_cons_succ,List.getElem?_append_right (by simp [h8])]
 simp [h8]
theorem coc_qb:(coc id ru rg pb np pc qb wt)[12]? =some (.pointer (some ⟨qb,0,none⟩)):=by
 unfold coc
 rw [List.getElem?_toArray,List.getElem?_cons_succ,List.getElem?_cons_succ,List.getElem?_append_right (by simp [h8])]
 simp [h8]
theorem coc_wt:(coc id ru rg pb np pc qb wt)[13]? =some (.int .i64 wt):=by
 unfold coc
 rw [List.getElem?_toArray,List.getElem?_cons_succ,List.getElem?_cons_succ,List.getElem?_append_right (by simp [h8])]
 simp [h8]
theorem coc_setPc (v:Int):(coc id ru rg pb np pc qb wt).setIfInBounds 11 (.int .i64 v)=coc id ru rg pb np v qb wt:=by
 unfold coc
 rw [List.setIfInBounds_toArray,List.set_cons_succ,List.set_cons_succ,List.set_append_right _ _ (by simp [h8])]
 simp [h8]
theorem coc_setWt (v:Int):(coc id ru rg pb np pc qb wt).setIfInBounds 13 (.int .i64 v)=coc id ru rg pb np pc qb v:=by
 unfold coc
 rw [List.setIfInBounds_toArray,List.set_cons_succ,List.set_cons_succ,List.set_append_right _ _ (by simp [h8])]
 simp [h8]
theorem coc_setReg {a:Nat} (ha:a<8) (v:Int):(coc id ru rg pb np pc qb wt).setIfInBounds (2+a) (.int .u64 v)=coc id ru (rg.set a v) pb np pc qb wt:=by
 unfold coc
 rw [Nat.add_comm 2,List.setIfInBounds_toArray,List.set_cons_succ,List.set_cons_succ,List.set_append_left _ _ (by simp [h8];exact ha),List.map_set]
theorem coc_regs (t:TypeId) (f:Nat×Nat):rowPart (some (.cells (coc id ru rg pb np pc qb wt) t f)) 2 8=vs rg:=by
 rw [rowPart_some]
 unfold coc vs
 rw [List.toList_toArray,List.drop_succ_cons,List.drop_succ_cons,List.drop_zero,List.take_append_of_le_length (by simp [h8]),List.take_of_length_le (by simp [h8])]
end
end
section
theorem wideIns:Wide Tryz.prog 33 5:=⟨⟨_,Tryz.underlying33,by rfl⟩,by kernel_rfl⟩
theorem loadIns (x:Value):Instr.loadAt 33 x=loadS 33 5 x:=rfl
theorem storeIns (x y:Value):Instr.storeAt 33 x y=storeS 33 5 x y:=rfl
def pts (a b c i j:Bool):Array Value:=#[.bool a,.bool b,.bool c,.bool i,.bool j]
theorem pts_lit (a b c i j:Bool):(#[.bool a,.bool b,.bool c,.bool i,.bool j]:Array Value)=pts a b c i j:=rfl
theorem pts_size (a b c i j:Bool):(pts a b c i j).size=5:=by simp [pts]
theorem pts_one (a b c i j:Bool):allOne (pts a b c i j):=by simp [allOne,pts,Value.oneCell']
theorem pts_0 (a b c i j:Bool):(pts a b c i j)[0]? =some (.bool a):=rfl
theorem pts_1 (a b c i j:Bool):(pts a b c i j)[1]? =some (.bool b):=rfl
theorem pts_2 (a b c i j:Bool):(pts a b c i j)[2]? =some (.bool c):=rfl
theorem pts_3 (a b c i j:Bool):(pts a b c i j)[3]? =some (.bool i):=rfl
theorem pts_4 (a b c i j:Bool):(pts a b c i j)[4]? =some (.bool j):=rfl
theorem pts_ne (a b c i j:Bool):(pts a b c i j=#[])=False:=eq_false (fun h=>by have:=congrArg Array.size h;rw [pts_size] at this;cases this)
theorem pts_set0 (a b c i j v:Bool):(pts a b c i j).setIfInBounds 0 (.bool v)=pts v b c i j:=by simp [pts]
theorem pts_set1 (a b c i j v:Bool):(pts a b c i j).setIfInBounds 1 (.bool v)=pts a v c i j:=by simp [pts]
theorem pts_set2 (a b c i j v:Bool):(pts a b c i j).setIfInBounds 2 (.bool v)=pts a b v i j:=by simp [pts]
theorem pts_set3 (a b c i j v:Bool):(pts a b c i j).setIfInBounds 3 (.bool v)=pts a b c v j:=by simp [pts]
theorem pts_set4 (a b c i j v:Bool):(pts a b c i j).setIfInBounds 4 (.bool v)=pts a b c i v:=by simp [pts]
theorem widePts:Wide Tryz.prog 293 5:=⟨⟨_,Tryz.underlying293,by rfl⟩,by kernel_rfl⟩
theorem loadPts (x:Value):Instr.loadAt 293 x=loadS 293 5 x:=rfl
theorem storePts (x y:Value):Instr.storeAt 293 x y=storeS 293 5 x y:=rfl
attribute [local go_sem ↓] cell_row frozen_row heap_drew heap_drewN heap_alloc heap_past heap_setCell heap_putRow loadIns storeIns loadPts storePts insc_op insc_a insc_b insc_c insc_im pts_0 pts_1 pts_2 pts_3 pts_4
attribute [local go_sem] rowCell_some rowFrozen_some rowHas_some rowIn_some rowPart_full rowPut_full rowSet_some run_loadS run_storeS loadW_at storeW_at fit_all fit_le one_int one_bool one_pointer one_slice allOne_list putRow_new ne_size1 ne_size2 wideIns widePts insc_size insc_one insc_ne insc_lit insc_z insc_set0 insc_set1 insc_set2 insc_set3 insc_set4 pts_lit pts_size pts_one pts_ne pts_set0 pts_set1 pts_set2 pts_set3 pts_set4
attribute [local simp ↓] heap_drew heap_drewN heap_alloc heap_past heap_setCell heap_putRow
attribute [local simp] rowCell_some rowFrozen_some rowHas_some rowIn_some rowPart_full rowPut_full rowSet_some fit_all putRow_new ne_size1 ne_size2 insc_size pts_size fit_le
theorem iisop (op:Int) (w:World):Calls Tryz.prog 212 #[.int .i64 op] w fun e w'=>e=.returned (.bool (isOpB op))∧w=w':=by
 unfold isOpB
 cases h1:decide (0≤op)
 ·go_enter Tryz.func212,Tryz.ntmps212
  go_wp2
  go_ret
  exact ⟨rfl,rfl⟩
 ·go_enter Tryz.func212,Tryz.ntmps212
  go_wp2
  go_ret
  exact ⟨rfl,rfl⟩
theorem igoodReg (r:Int) (h:Bool) (w:World):Calls Tryz.prog 214 #[.int .i64 r,.bool h] w fun e w'=>e=.returned (.bool (goodR r h))∧w=w':=by
 cases h
 ·rw [show goodR r false=(r==0) from rfl]
  go_enter Tryz.func214,Tryz.ntmps214
  go_wp2
  go_ret
  exact ⟨rfl,rfl⟩
 ·rw [show goodR r true=(decide (0≤r)&&decide (r<8)) from rfl]
  cases h1:decide (0≤r)
  ·go_enter Tryz.func214,Tryz.ntmps214
   go_wp2
   go_ret
   exact ⟨rfl,rfl⟩
  ·go_enter Tryz.func214,Tryz.ntmps214
   go_wp2
   go_ret
   exact ⟨rfl,rfl⟩
theorem igoodImm (m:Int) (a b c i j:Bool) (w:World):Calls Tryz.prog 215 #[.int .i64 m,.agg (pts a b c i j)] w fun e w'=>e=.returned (.bool (goodMb m i j))∧Chg [] w w':=by
 have hc:∀x,(w.alloc (.cells (pts a b c i j) 293))=x→Chg [] w x:=fun x h=>h▸(Chg.refl [] w).alloc _
 cases i
 ·rw [show goodMb m false j=(m==0) from rfl]
  go_enter Tryz.func215,Tryz.ntmps215
  go_wp2
  go_ret
  exact ⟨rfl,hc _ rfl⟩
 cases j
 ·rw [show goodMb m true false=(decide (-2147483648≤m)&&decide (m≤2147483647)) from rfl]
  cases h1:decide (-2147483648≤m)
  ·go_enter Tryz.func215,Tryz.ntmps215
   go_wp2
   go_ret
   exact ⟨rfl,hc _ rfl⟩
  ·go_enter Tryz.func215,Tryz.ntmps215
   go_wp2
   go_ret
   exact ⟨rfl,hc _ rfl⟩
 ·cases h0:decide (m<0)
  ·rw [show goodMb m true true=(decide (-2147483648≤m)&&decide (m≤2147483647)) by unfold goodMb;rw [h0];rfl]
   cases h1:decide (-2147483648≤m)
   ·go_enter Tryz.func215,Tryz.ntmps215
    go_wp2
    go_ret
    exact ⟨rfl,hc _ rfl⟩
   ·go_enter Tryz.func215,Tryz.ntmps215
    go_wp2
    go_ret
    exact ⟨rfl,hc _ rfl⟩
  ·rw [show goodMb m true true=false by unfold goodMb;rw [h0];rfl]
   go_enter Tryz.func215,Tryz.ntmps215
   go_wp2
   go_ret
   exact ⟨rfl,hc _ rfl⟩
theorem results_pts {fn:Func} {p:Tmp} (h:fn.results=#[.cell p 293]) (tmps:Array Value) (w:World) (q:Nat) (a b c i j:Bool) (fr:Nat×Nat)
 (hp:tmps.getD p undef=.pointer (some ⟨q,0,none⟩)) (hb:w.heap[q]? =some (.cells (pts a b c i j) 293 fr)):(results fn tmps).run Tryz.prog w=.ok (.agg (pts a b c i j)) w:=by
 have hp':tmps[p]?.getD undef=.pointer (some ⟨q,0,none⟩):=by simpa using hp
 have:=run_loadVar_row (P:=Tryz.prog) w q 293 293 (pts a b c i j) fr _ hb Tryz.underlying293 rfl (by rw [pts_size];kernel_rfl)
 simp [results,h,hp',asAddr,this]
theorem iparts_at (op:Int) (a b c i j:Bool) (h0:0≤op) (h22:op≤22) (ha:hasA op=a) (hb:hasB op=b) (hc:hasC op=c) (hi:hasI op=i) (hj:jumpB op=j) (w:World):Calls Tryz.prog 213 #[.int .i64 op] w fun e w'=>e=.returned (.agg (pts a b c i j))∧Chg [] w w':=by
 have h:op=0∨op=1∨op=2∨op=3∨op=4∨op=5∨op=6∨op=7∨op=8∨op=9∨op=10∨op=11∨op=12∨op=13∨op=14∨op=15∨op=16∨op=17∨op=18∨op=19∨op=20∨op=21∨op=22:=by omega
 clear h0 h22
 rcases h with rfl|rfl|rfl|rfl|rfl|rfl|rfl|rfl|rfl|rfl|rfl|rfl|rfl|rfl|rfl|rfl|rfl|rfl|rfl|rfl|rfl|rfl|rfl
 all_goals
  subst ha hb hc hi hj
  go_enter Tryz.func213,Tryz.ntmps213
  try dsimp only [List.append]
  go_wp2_with fail
  refine bodyPost_ret (v:=.agg (pts _ _ _ _ _)) (results_pts (by rfl) _ _ w.heap.size _ _ _ _ _ (0,0) (by rfl) (by simp;try rfl)) (by rfl) ⟨rfl,(Chg.refl [] w).alloc _⟩
end
section
attribute [local go_sem ↓] cell_row frozen_row heap_drew heap_drewN heap_alloc heap_past heap_setCell heap_putRow loadIns storeIns loadPts storePts insc_op insc_a insc_b insc_c insc_im pts_0 pts_1 pts_2 pts_3 pts_4
attribute [local go_sem] rowCell_some rowFrozen_some rowHas_some rowIn_some rowPart_full rowPut_full rowSet_some run_loadS run_storeS loadW_at storeW_at fit_all fit_le one_int one_bool one_pointer one_slice allOne_list putRow_new ne_size1 ne_size2 wideIns widePts insc_size insc_one insc_ne insc_lit insc_z insc_set0 insc_set1 insc_set2 insc_set3 insc_set4 pts_lit pts_size pts_one pts_ne pts_set0 pts_set1 pts_set2 pts_set3 pts_set4
attribute [local simp ↓] heap_drew heap_drewN heap_alloc heap_past heap_setCell heap_putRow
attribute [local simp] rowCell_some rowFrozen_some rowHas_some rowIn_some rowPart_full rowPut_full rowSet_some fit_all putRow_new ne_size1 ne_size2 insc_size pts_size fit_le
theorem igood_any (i:Ins) (w:World):Calls Tryz.prog 199 #[.agg (insc i)] w fun e w'=>e=.returned (.bool (goodI i))∧Chg [] w w':=by
 have hx:(w.alloc (.cells (insc i) 33)).heap[w.heap.size]? =some (.cells (insc i) 33 (0,0)):=by simp
 have HC:=Lib.hid ((Chg.refl [] w).alloc (.cells (insc i) 33))
 unfold goodI
 cases h0:isOpB i.op
 ·go_enter Tryz.func199,Tryz.ntmps199
  go_wp2_with (go_at_call 212;refine (iisop _ _).mono ?_;rintro e w' ⟨rfl,rfl⟩)
  go_ret
  exact ⟨rfl,HC.out⟩
 have hr:0≤i.op∧i.op≤22:=by unfold isOpB at h0;simp at h0;exact h0
 have HR:=Lib.hid hr
 clear hr
 have h1:goodR i.a (hasA i.op)=true∨goodR i.a (hasA i.op)=false:=by cases goodR i.a (hasA i.op)<;>simp
 have h2:goodR i.b (hasB i.op)=true∨goodR i.b (hasB i.op)=false:=by cases goodR i.b (hasB i.op)<;>simp
 have h3:goodR i.c (hasC i.op)=true∨goodR i.c (hasC i.op)=false:=by cases goodR i.c (hasC i.op)<;>simp
 unfold goodM
 generalize ha:hasA i.op=a at *
 generalize hb:hasB i.op=b at *
 generalize hc:hasC i.op=c at *
 generalize hi:hasI i.op=d at *
 generalize hj:jumpB i.op=j at *
 have HP:=Lib.hid (fun w=>iparts_at i.op a b c d j HR.out.1 HR.out.2 ha hb hc hi hj w)
 clear ha hb hc hi hj
 rcases h1 with h1|h1
 ·rcases h2 with h2|h2
  ·rcases h3 with h3|h3
   ·rw [h1,h2,h3]
    show Calls _ _ _ _ fun e w'=>e=.returned (.bool (goodMb i.im d j))∧_
    have G0:=Lib.hid (fun w=>igoodReg i.a a w)
    rw [h1] at G0
    have G1:=Lib.hid (fun w=>igoodReg i.b b w)
    rw [h2] at G1
    have G2:=Lib.hid (fun w=>igoodReg i.c c w)
    rw [h3] at G2
    clear h1 h2 h3
    go_enter Tryz.func199,Tryz.ntmps199
    go_wp2_with (go_at_call 212;refine (iisop _ _).mono ?_;rintro e w' ⟨rfl,rfl⟩)
    generalize hw1:w.alloc (.cells (insc i) 33)=w1 at hx HC ⊢
    generalize hz:w.heap.size=p at hx ⊢
    refine (HP.out w1).mono ?_
    rintro e w2 ⟨rfl,c2⟩
    have hx2:=c2.keep hx (by simp)
    have HC2:=Lib.hid (HC.out.trans c2)
    have ox:=old hx2
    have hy:(w2.alloc (.cells (pts a b c d j) 293)).heap[w2.heap.size]? =some (.cells (pts a b c d j) 293 (0,0)):=by simp
    clear c2 hx hw1 hz
    go_wp2_with (first |(go_at_call 214;(with_reducible refine (G0.out _).mono ?_);rintro e w' ⟨rfl,rfl⟩)|(go_at_call 214;(with_reducible refine (G1.out _).mono ?_);rintro e w' ⟨rfl,rfl⟩)|(go_at_call 214;(with_reducible refine (G2.out _).mono ?_);rintro e w' ⟨rfl,rfl⟩)|(go_at_call 215;refine (igoodImm _ _ _ _ _ _ _).mono ?_;rintro e w3 ⟨rfl,c3⟩))
    go_ret
    exact ⟨rfl,(HC2.out.alloc _).trans c3⟩
   ·rw [h1,h2,h3]
    show Calls _ _ _ _ fun e w'=>e=.returned (.bool (false))∧_
    have G0:=Lib.hid (fun w=>igoodReg i.a a w)
    rw [h1] at G0
    have G1:=Lib.hid (fun w=>igoodReg i.b b w)
    rw [h2] at G1
    have G2:=Lib.hid (fun w=>igoodReg i.c c w)
    rw [h3] at G2
    clear h1 h2 h3
    go_enter Tryz.func199,Tryz.ntmps199
    go_wp2_with (go_at_call 212;refine (iisop _ _).mono ?_;rintro e w' ⟨rfl,rfl⟩)
    generalize hw1:w.alloc (.cells (insc i) 33)=w1 at hx HC ⊢
    generalize hz:w.heap.size=p at hx ⊢
    refine (HP.out w1).mono ?_
    rintro e w2 ⟨rfl,c2⟩
    have hx2:=c2.keep hx (by simp)
    have HC2:=Lib.hid (HC.out.trans c2)
    have ox:=old hx2
    have hy:(w2.alloc (.cells (pts a b c d j) 293)).heap[w2.heap.size]? =some (.cells (pts a b c d j) 293 (0,0)):=by simp
    clear c2 hx hw1 hz
    go_wp2_with (first |(go_at_call 214;(with_reducible refine (G0.out _).mono ?_);rintro e w' ⟨rfl,rfl⟩)|(go_at_call 214;(with_reducible refine (G1.out _).mono ?_);rintro e w' ⟨rfl,rfl⟩)|(go_at_call 214;(with_reducible refine (G2.out _).mono ?_);rintro e w' ⟨rfl,rfl⟩))
    go_ret
    exact ⟨rfl,HC2.out.alloc _⟩
  ·rw [h1,h2]
   show Calls _ _ _ _ fun e w'=>e=.returned (.bool (false))∧_
   have G0:=Lib.hid (fun w=>igoodReg i.a a w)
   rw [h1] at G0
   have G1:=Lib.hid (fun w=>igoodReg i.b b w)
   rw [h2] at G1
   clear h1 h2 h3
   go_enter Tryz.func199,Tryz.ntmps199
   go_wp2_with (go_at_call 212;refine (iisop _ _).mono ?_;rintro e w' ⟨rfl,rfl⟩)
   generalize hw1:w.alloc (.cells (insc i) 33)=w1 at hx HC ⊢
   generalize hz:w.heap.size=p at hx ⊢
   refine (HP.out w1).mono ?_
   rintro e w2 ⟨rfl,c2⟩
   have hx2:=c2.keep hx (by simp)
   have HC2:=Lib.hid (HC.out.trans c2)
   have ox:=old hx2
   have hy:(w2.alloc (.cells (pts a b c d j) 293)).heap[w2.heap.size]? =some (.cells (pts a b c d j) 293 (0,0)):=by simp
   clear c2 hx hw1 hz
   go_wp2_with (first |(go_at_call 214;(with_reducible refine (G0.out _).mono ?_);rintro e w' ⟨rfl,rfl⟩)|(go_at_call 214;(with_reducible refine (G1.out _).mono ?_);rintro e w' ⟨rfl,rfl⟩))
   go_ret
   exact ⟨rfl,HC2.out.alloc _⟩
 ·rw [h1]
  show Calls _ _ _ _ fun e w'=>e=.returned (.bool (false))∧_
  have G0:=Lib.hid (fun w=>igoodReg i.a a w)
  rw [h1] at G0
  clear h1 h2 h3
  go_enter Tryz.func199,Tryz.ntmps199
  go_wp2_with (go_at_call 212;refine (iisop _ _).mono ?_;rintro e w' ⟨rfl,rfl⟩)
  generalize hw1:w.alloc (.cells (insc i) 33)=w1 at hx HC ⊢
  generalize hz:w.heap.size=p at hx ⊢
  refine (HP.out w1).mono ?_
  rintro e w2 ⟨rfl,c2⟩
  have hx2:=c2.keep hx (by simp)
  have HC2:=Lib.hid (HC.out.trans c2)
  have ox:=old hx2
  have hy:(w2.alloc (.cells (pts a b c d j) 293)).heap[w2.heap.size]? =some (.cells (pts a b c d j) 293 (0,0)):=by simp
  clear c2 hx hw1 hz
  go_wp2_with (go_at_call 214;(with_reducible refine (G0.out _).mono ?_);rintro e w' ⟨rfl,rfl⟩)
  go_ret
  exact ⟨rfl,HC2.out.alloc _⟩
theorem or_sum (a b k:Nat) (h:b<2 ^ k) (hs:b+2 ^ k*a<18446744073709551616):bits .or .u64 (b:Int) ((2 ^ k*a:Nat):Int)=((b+2 ^ k*a:Nat):Int):=by
 rw [bits_or_u64_nat _ _ (by omega) (by omega),Nat.or_comm,←Nat.two_pow_add_eq_or_of_lt h,Nat.add_comm]
theorem or_int (x y:Int) (k:Nat) (a:Int) (hy:y=2 ^ k*a) (ha:0≤a) (h0:0≤x) (h:x<2 ^ k) (hs:x+y<18446744073709551616):bits .or .u64 x y=x+y:=by
 obtain ⟨X,rfl⟩:=Int.eq_ofNat_of_zero_le h0
 obtain ⟨A,rfl⟩:=Int.eq_ofNat_of_zero_le ha
 have e:y=((2 ^ k*A:Nat):Int):=by rw [hy];push_cast;rfl
 rw [e] at hs ⊢
 have h':X<2 ^ k:=by exact_mod_cast h
 rw [or_sum A X k h' (by omega)]
 push_cast
 rfl
theorem u64_w (x:Int):IntKind.u64.wrap x=x % 18446744073709551616:=by simp [IntKind.wrap,IntKind.bits,IntKind.signed]
theorem code_or {i:Ins} (h:goodI i=true):bits BinOp.or IntKind.u64 (bits BinOp.or IntKind.u64 (IntKind.u64.wrap i.op) (bits BinOp.or IntKind.u64 (bits BinOp.or IntKind.u64 (IntKind.u64.wrap (IntKind.u64.wrap i.a*256)) (IntKind.u64.wrap (IntKind.u64.wrap i.b*4096))) (IntKind.u64.wrap (IntKind.u64.wrap i.c*65536)))) (IntKind.u64.wrap (IntKind.u64.wrap i.im*4294967296))=codeI i:=by
 have ⟨h1,h2,h3,h4,h5⟩:=goodI_parts h
 have ea:IntKind.u64.wrap (IntKind.u64.wrap i.a*256)=i.a*256:=by rw [u64_w,u64_w];omega
 have eb:IntKind.u64.wrap (IntKind.u64.wrap i.b*4096)=i.b*4096:=by rw [u64_w,u64_w];omega
 have ec:IntKind.u64.wrap (IntKind.u64.wrap i.c*65536)=i.c*65536:=by rw [u64_w,u64_w];omega
 have eo:IntKind.u64.wrap i.op=i.op:=by rw [u64_w];omega
 have em:IntKind.u64.wrap (IntKind.u64.wrap i.im*4294967296)=(i.im % 4294967296)*4294967296:=by rw [u64_w,u64_w];omega
 rw [ea,eb,ec,eo,em]
 rw [or_int (i.a*256) (i.b*4096) 12 i.b (by omega) (by omega) (by omega) (by omega) (by omega)]
 rw [or_int (i.a*256+i.b*4096) (i.c*65536) 16 i.c (by omega) (by omega) (by omega) (by omega) (by omega)]
 rw [or_int i.op (i.a*256+i.b*4096+i.c*65536) 8 (i.a+i.b*16+i.c*256) (by omega) (by omega) (by omega) (by omega) (by omega)]
 rw [or_int (i.op+(i.a*256+i.b*4096+i.c*65536)) (i.im % 4294967296*4294967296) 32 (i.im % 4294967296) (by omega) (by omega) (by omega) (by omega) (by omega)]
 unfold codeI
 omega
theorem iencode_bad (i:Ins) (w:World) (h:goodI i=false):Calls Tryz.prog 190 #[.agg (insc i)] w fun e w'=>e=.returned (.tuple #[.int .u64 0,.int .i64 11])∧Chg [] w w':=by
 have hx:(w.alloc (.cells (insc i) 33)).heap[w.heap.size]? =some (.cells (insc i) 33 (0,0)):=by simp
 have HC:=Lib.hid ((Chg.refl [] w).alloc (.cells (insc i) 33))
 have HG:=Lib.hid (fun w=>igood_any i w)
 rw [h] at HG
 clear h
 go_enter Tryz.func190,Tryz.ntmps190
 go_wp2_with (go_at_call 199;refine (HG.out _).mono ?_;rintro e w2 ⟨rfl,c2⟩)
 go_ret2
 exact ⟨rfl,HC.out.trans c2⟩
theorem iencode_ok (i:Ins) (w:World) (h:goodI i=true):Calls Tryz.prog 190 #[.agg (insc i)] w fun e w'=>e=.returned (.tuple #[.int .u64 (codeI i),.int .i64 0])∧Chg [] w w':=by
 have hx:(w.alloc (.cells (insc i) 33)).heap[w.heap.size]? =some (.cells (insc i) 33 (0,0)):=by simp
 have HC:=Lib.hid ((Chg.refl [] w).alloc (.cells (insc i) 33))
 have HG:=Lib.hid (fun w=>igood_any i w)
 rw [h] at HG
 have HP:=Lib.hid h
 clear h
 go_enter Tryz.func190,Tryz.ntmps190
 go_wp2_with fail
 generalize hw1:w.alloc (.cells (insc i) 33)=w1 at hx HC ⊢
 generalize hz:w.heap.size=p at hx ⊢
 refine (HG.out w1).mono ?_
 rintro e w2 ⟨rfl,c2⟩
 have hx2:=c2.keep hx (by simp)
 have HC2:=Lib.hid (HC.out.trans c2)
 clear c2 hx hw1 hz
 go_wp2_with fail
 go_ret2
 exact ⟨by rw [code_or HP.out];rfl,HC2.out⟩
theorem results_ins2 {fn:Func} {p t:Tmp} (h:fn.results=#[.cell p 33,.tmp t]) (tmps:Array Value) (w:World) (b:Nat) (s:Ins) (fr:Nat×Nat)
 (hp:tmps.getD p undef=.pointer (some ⟨b,0,none⟩)) (hb:w.heap[b]? =some (.cells (insc s) 33 fr)) (x:Value) (hx:tmps.getD t undef=x):
 (results fn tmps).run Tryz.prog w=.ok (.tuple #[.agg (insc s),x]) w:=by
 subst hx
 have hp':tmps[p]?.getD undef=.pointer (some ⟨b,0,none⟩):=by simpa using hp
 have:=run_loadVar_row (P:=Tryz.prog) w b 33 33 (insc s) fr _ hb Tryz.underlying33 rfl (by rw [insc_size];kernel_rfl)
 simp [results,h,hp',asAddr,this]
theorem and_mod (u:Int) (h0:0≤u) (h64:u<18446744073709551616) (k:Nat) (hk:k<63) (m:Int) (hm:m=2 ^ k-1):bits .and .u64 u m=u % 2 ^ k:=by
 obtain ⟨U,rfl⟩:=Int.eq_ofNat_of_zero_le h0
 have h1:1≤2 ^ k:=Nat.one_le_two_pow
 have h2:2 ^ k<2 ^ 63:=Nat.pow_lt_pow_right (by omega) hk
 have e:m=((2 ^ k-1:Nat):Int):=by rw [hm];push_cast [h1];rfl
 rw [e,bits_and_u64_nat _ _ (by omega) (by omega),Nat.and_two_pow_sub_one_eq_mod]
 push_cast
 rfl
theorem ins_walk (u:Int) (h0:0≤u) (h64:u<18446744073709551616):(⟨wrap64 (bits BinOp.and IntKind.u64 u 255),wrap64 (bits BinOp.and IntKind.u64 (u / 256) 15),wrap64 (bits BinOp.and IntKind.u64 (u / 4096) 15),wrap64 (bits BinOp.and IntKind.u64 (u / 65536) 15),wrap64 (wrap32 (u / 4294967296))⟩:Ins)=insOf u:=by
 have w64:∀x,wrap64 x=(x+9223372036854775808) % 18446744073709551616-9223372036854775808:=fun x=>by simp [wrap64]
 have w32:∀x,wrap32 x=(x+2147483648) % 4294967296-2147483648:=fun x=>by simp [wrap32]
 rw [and_mod u h0 h64 8 (by omega) 255 (by decide),and_mod (u / 256) (by omega) (by omega) 4 (by omega) 15 (by decide),and_mod (u / 4096) (by omega) (by omega) 4 (by omega) 15 (by decide),and_mod (u / 65536) (by omega) (by omega) 4 (by omega) 15 (by decide)]
 unfold insOf imOf
 simp only [w64,w32,Ins.mk.injEq]
 refine ⟨by omega,by omega,by omega,by omega,?_⟩
 split<;>omega
theorem idecode (u:Int) (h0:0≤u) (h64:u<18446744073709551616) (w:World):Calls Tryz.prog 172 #[.int .u64 u] w fun e w'=>e=.returned (.tuple #[.agg (insc (decI u)),.int .i64 (if decB u then 0 else 11)])∧Chg [] w w':=by
 have hI:=ins_walk u h0 h64
 have HZ:(putRow ((w.alloc (.cells (insc insZ) 33)).alloc (.cells (insc insZ) 33)) (w.heap.size+1) 0 (insc (insOf u))).heap[w.heap.size]? =some (.cells (insc insZ) 33 (0,0)):=by
  rw [heap_putRow _ _ _ _ _ (by simp [rowHas,Fit,insc_size]),if_neg (by omega)]
  simp
 have HY:(putRow ((w.alloc (.cells (insc insZ) 33)).alloc (.cells (insc insZ) 33)) (w.heap.size+1) 0 (insc (insOf u))).heap[w.heap.size+1]? =some (.cells (insc (insOf u)) 33 (0,0)):=by
  rw [heap_putRow _ _ _ _ _ (by simp [rowHas,Fit,insc_size]),if_pos rfl]
  simp
 have HC:=Lib.hid ((((Chg.refl [] w).alloc (.cells (insc insZ) 33)).alloc (.cells (insc insZ) 33)).putRow (w.heap.size+1) 0 (insc (insOf u)) (.inr (by omega)))
 have HN:=Lib.hid (show w.heap.size≤w.heap.size by omega)
 have HI:=Lib.hid hI
 clear hI
 cases hg:goodI (insOf u)
 ·have hd:decB u=false:=by unfold decB;rw [hg];rfl
  rw [show decI u=insZ by unfold decI;rw [hd];rfl,hd]
  go_enter Tryz.func172,Tryz.ntmps172
  try dsimp only [List.append]
  go_wp2_with fail
  simp only [HI.out]
  generalize putRow ((w.alloc (.cells (insc insZ) 33)).alloc (.cells (insc insZ) 33)) (w.heap.size+1) 0 (insc (insOf u))=w1 at HZ HY HC ⊢
  refine (iencode_bad (insOf u) w1 hg).mono ?_
  rintro e w2 ⟨rfl,c2⟩
  have hz:=c2.keep HZ (by simp)
  have hy:=c2.keep HY (by simp)
  have HC2:=Lib.hid (HC.out.trans c2)
  clear HZ HY c2
  go_wp2_with fail
  refine bodyPost_ret (v:=.tuple #[.agg (insc insZ),.int .i64 11]) (results_ins2 (by rfl) _ _ w.heap.size insZ (0,0) (by rfl) (by simp [*];try rfl) _ (by rfl)) (by rfl) ⟨rfl,HC2.out.putRow _ _ _ (.inr HN.out)⟩
 cases hc:codeI (insOf u)==u
 ·have hd:decB u=false:=by unfold decB;rw [hg,hc];rfl
  rw [show decI u=insZ by unfold decI;rw [hd];rfl,hd]
  have hne:(codeI (insOf u) !=u)=true:=by simp [bne,hc]
  clear hc
  go_enter Tryz.func172,Tryz.ntmps172
  try dsimp only [List.append]
  go_wp2_with fail
  simp only [HI.out]
  generalize putRow ((w.alloc (.cells (insc insZ) 33)).alloc (.cells (insc insZ) 33)) (w.heap.size+1) 0 (insc (insOf u))=w1 at HZ HY HC ⊢
  refine (iencode_ok (insOf u) w1 hg).mono ?_
  rintro e w2 ⟨rfl,c2⟩
  have hz:=c2.keep HZ (by simp)
  have hy:=c2.keep HY (by simp)
  have HC2:=Lib.hid (HC.out.trans c2)
  clear HZ HY c2
  go_wp2_with fail
  refine bodyPost_ret (v:=.tuple #[.agg (insc insZ),.int .i64 11]) (results_ins2 (by rfl) _ _ w.heap.size insZ (0,0) (by rfl) (by simp [*];try rfl) _ (by rfl)) (by rfl) ⟨rfl,HC2.out.putRow _ _ _ (.inr HN.out)⟩
 ·have hd:decB u=true:=by unfold decB;rw [hg,hc];rfl
  rw [show decI u=insOf u by unfold decI;rw [hd];rfl,hd]
  have hne:(codeI (insOf u) !=u)=false:=by simp [bne,hc]
  clear hc
  go_enter Tryz.func172,Tryz.ntmps172
  try dsimp only [List.append]
  go_wp2_with fail
  simp only [HI.out]
  generalize putRow ((w.alloc (.cells (insc insZ) 33)).alloc (.cells (insc insZ) 33)) (w.heap.size+1) 0 (insc (insOf u))=w1 at HZ HY HC ⊢
  refine (iencode_ok (insOf u) w1 hg).mono ?_
  rintro e w2 ⟨rfl,c2⟩
  have hz:=c2.keep HZ (by simp)
  have hy:=c2.keep HY (by simp)
  have HC2:=Lib.hid (HC.out.trans c2)
  clear HZ HY c2
  go_wp2_with fail
  refine bodyPost_ret (v:=.tuple #[.agg (insc (insOf u)),.int .i64 0]) (results_ins2 (by rfl) _ _ w.heap.size (insOf u) (0,0) (by rfl) (by rw [heap_putRow _ _ _ _ _ (by rw [hz];simp [rowHas,Fit,insc_size]),if_pos rfl,hz];exact rowPut_full _ _ _ _ (by rw [insc_size,insc_size])) _ (by rfl)) (by rfl) ⟨rfl,HC2.out.putRow _ _ _ (.inr HN.out)⟩
end
section
set_option maxRecDepth 100000
def letH (op:Int):List UInt8:=if op=1 then [65,73] else if (2≤op∧op≤7)∨op=10∨op=11 then [65,66,67] else if op=8∨op=9∨(18≤op∧op≤20) then [65,66,73] else if 12≤op∧op≤14 then [66,73] else if op=17 then [73] else if op=21 then [65] else []
theorem rHas (op:Int) (l:List UInt8) (h0:0≤op) (h22:op≤22) (hl:letH op=l) (w:World):Calls Tryz.prog 169 #[.int .i64 op] w fun e w'=>e=.returned (.string ⟨l.toArray⟩)∧w=w':=by
 have h:op=0∨op=1∨op=2∨op=3∨op=4∨op=5∨op=6∨op=7∨op=8∨op=9∨op=10∨op=11∨op=12∨op=13∨op=14∨op=15∨op=16∨op=17∨op=18∨op=19∨op=20∨op=21∨op=22:=by omega
 clear h0 h22
 rcases h with rfl|rfl|rfl|rfl|rfl|rfl|rfl|rfl|rfl|rfl|rfl|rfl|rfl|rfl|rfl|rfl|rfl|rfl|rfl|rfl|rfl|rfl|rfl
 all_goals
  subst hl
  go_enter Tryz.func169,Tryz.ntmps169
  try dsimp only [List.append]
  go_wp2_with fail
  go_ret
  exact ⟨rfl,rfl⟩
theorem rhas_at (op c:Int) (l:List UInt8) (h0:0≤op) (h22:op≤22) (hl:letH op=l) (hb:l.length≤3) (w:World):Calls Tryz.prog 122 #[.int .i64 op,.int .u8 c] w fun e w'=>e=.returned (.bool (l.any fun b=>(b.toNat:Int)==c))∧w=w':=by
 have HH:=Lib.hid (fun w=>rHas op l h0 h22 hl w)
 clear h0 h22 hl
 go_enter Tryz.func122,Tryz.ntmps122
 go_wp2_with (go_at_call 169;refine (HH.out _).mono ?_;rintro e w' ⟨rfl,rfl⟩)
 go_loop [6] (fun i=>∃k:Nat,k≤l.length∧i=.int .i64 k∧∀j,j<k→∀b,l[j]? =some b→((b.toNat:Int)==c)=false) (fun i=>l.length-(intOf i).toNat)
 case atStart=>exact ⟨0,by omega,rfl,fun j hj=>by omega⟩
 case round=>
  obtain ⟨k,hk,rfl,hall⟩:=hrel
  have HA:=Lib.hid hall
  clear hall
  by_cases hlt:k<l.length
  ·obtain ⟨b,hbk⟩:∃b,l[k]? =some b:=⟨l[k],List.getElem?_eq_getElem hlt⟩
   have HB:=Lib.hid hbk
   have HLT:=Lib.hid hlt
   have g1:(k:Int)<(l.length:Int):=by omega
   have g0:(0:Int)≤(k:Int):=by omega
   have HE:=Lib.hid (show ∀(h:k<(⟨l.toArray⟩:ByteArray).size),(⟨l.toArray⟩:ByteArray)[k]=b from fun _=>(List.getElem?_eq_some_iff.1 hbk).2)
   go_wp2_with fail
   ·rename_i h _
    rw [HE.out] at h
    go_ret
    refine ⟨?_,rfl⟩
    rw [show (l.any fun b=>(b.toNat:Int)==c)=true from List.any_eq_true.2 ⟨b,List.mem_of_getElem? HB.out,h⟩]
    rfl
   ·rename_i h
    rw [HE.out] at h
    refine ⟨⟨k+1,by have:=HLT.out;omega,by go_num,fun j hj b' hb'=>?_⟩,?_⟩
    ·by_cases hjk:j=k
     ·subst hjk
      have:=HB.out
      rw [hb'] at this
      injection this with this
      rw [this];exact h
     ·exact HA.out j (by omega) b' hb'
    ·have:=HLT.out
     simp [intOf]
     omega
  ·have hkl:k=l.length:=by omega
   subst hkl
   go_wp2_with fail
   go_ret
   refine ⟨?_,rfl⟩
   have:(l.any fun b=>(b.toNat:Int)==c)=false:=by
    rw [List.any_eq_false]
    intro b hb
    obtain ⟨j,hj⟩:=List.getElem?_of_mem hb
    have:=HA.out j (List.getElem?_eq_some_iff.1 hj).1 b hj
    simp [this]
   rw [this]
   rfl
theorem let_A (op:Int) (h0:0≤op) (h22:op≤22):(letH op).any (fun b=>(b.toNat:Int)==65)=hasA op∧(letH op).any (fun b=>(b.toNat:Int)==66)=hasB op∧(letH op).any (fun b=>(b.toNat:Int)==67)=hasC op∧(letH op).any (fun b=>(b.toNat:Int)==73)=hasI op∧(letH op).length≤3:=by
 have h:op=0∨op=1∨op=2∨op=3∨op=4∨op=5∨op=6∨op=7∨op=8∨op=9∨op=10∨op=11∨op=12∨op=13∨op=14∨op=15∨op=16∨op=17∨op=18∨op=19∨op=20∨op=21∨op=22:=by omega
 clear h0 h22
 rcases h with rfl|rfl|rfl|rfl|rfl|rfl|rfl|rfl|rfl|rfl|rfl|rfl|rfl|rfl|rfl|rfl|rfl|rfl|rfl|rfl|rfl|rfl|rfl
 all_goals exact ⟨by decide,by decide,by decide,by decide,by decide⟩
theorem rhas_A (op:Int) (h0:0≤op) (h22:op≤22) (w:World):Calls Tryz.prog 122 #[.int .i64 op,.int .u8 65] w fun e w'=>e=.returned (.bool (hasA op))∧w=w':=by
 have h:=let_A op h0 h22
 rw [←h.1];exact rhas_at op 65 _ h0 h22 rfl h.2.2.2.2 w
theorem rhas_B (op:Int) (h0:0≤op) (h22:op≤22) (w:World):Calls Tryz.prog 122 #[.int .i64 op,.int .u8 66] w fun e w'=>e=.returned (.bool (hasB op))∧w=w':=by
 have h:=let_A op h0 h22
 rw [←h.2.1];exact rhas_at op 66 _ h0 h22 rfl h.2.2.2.2 w
theorem rhas_C (op:Int) (h0:0≤op) (h22:op≤22) (w:World):Calls Tryz.prog 122 #[.int .i64 op,.int .u8 67] w fun e w'=>e=.returned (.bool (hasC op))∧w=w':=by
 have h:=let_A op h0 h22
 rw [←h.2.2.1];exact rhas_at op 67 _ h0 h22 rfl h.2.2.2.2 w
theorem rhas_I (op:Int) (h0:0≤op) (h22:op≤22) (w:World):Calls Tryz.prog 122 #[.int .i64 op,.int .u8 73] w fun e w'=>e=.returned (.bool (hasI op))∧w=w':=by
 have h:=let_A op h0 h22
 rw [←h.2.2.2.1];exact rhas_at op 73 _ h0 h22 rfl h.2.2.2.2 w
theorem rreg (n:Int) (w:World):Calls Tryz.prog 123 #[.int .i64 n] w fun e w'=>e=.returned (.bool (decide (0≤n)&&decide (n≤7)))∧w=w':=by
 cases h1:decide (0≤n)
 all_goals
  go_enter Tryz.func123,Tryz.ntmps123
  go_wp2
  go_ret
  exact ⟨rfl,rfl⟩
end
end Go.Proofs.YtcjoinhngdfdmaaGreatDoor
