/- Texts of the walk, one behind the other: Bup Bnw. No condition. -/
import Derived.Test.YtnocekhgabgffaaOCae
section
namespace Go.Proofs.Ytnocekhgabgffaa
open Go.RowKit
set_option linter.unusedVariables false
set_option maxHeartbeats 1000000

set_option maxRecDepth 100000
attribute [local go_sem ↓] append_appS copy_copS clear_clrS make_mkS slice_slS lookup_lookS mput_mputS del_mdelS cell_row frozen_row heap_drew heap_drewN heap_alloc heap_past heap_setCell heap_putRow heap_setB loadEv storeEv loadBe storeBe loadSp storeSp loadNw storeNw loadLine storeLine evc_kd evc_co evc_li evc_wo evc_va bec_fl bec_li bec_wo bec_va nwC_0 nwC_1 spC_0 spC_1
attribute [local go_sem] rowCell_some rowFrozen_some rowHas_some rowIn_some rowPart_full rowPart_lit rowPut_full rowPut_lit rowSet_some size_putRow size_setB run_loadS run_storeS run_appS run_copS run_clrS run_mkS run_slS run_lookS run_mputS run_mdelS loadW_at storeW_at fit_all fit_le one_int one_bool one_pointer one_slice allOne_list putRow_new ne_size1 ne_size2 ne_size3 ne_size4 wideEv wideBe wideSp wideNw wideLine evc_size evc_one evc_ne evc_lit evc_z fold_evc bec_size bec_one bec_lit bec_ne bec_at bec_in spC_size spC_one nwC_size nwC_one nwC_ne nwC_set0 nwC_set1 nwC_lit bec_set0 bec_set1 bec_set2 bec_set3 spC_set0 spC_set1 spC_lit fold_spC spC_ne fold_nwC fold_bec fold_at vs_size vs_one ic_size ic_get
attribute [local simp ↓] heap_drew heap_drewN heap_alloc heap_past heap_setCell heap_putRow heap_setB
attribute [local simp] rowCell_some rowFrozen_some rowHas_some rowIn_some rowPart_full rowPart_lit rowPut_full rowPut_lit rowSet_some size_putRow size_setB fit_all putRow_new ne_size1 ne_size2 ne_size3 ne_size4 evc_size bec_size spC_size nwC_size vs_size fit_le
/-! ### What each kind does: the map -/
theorem make_kinds (w : World) : (Instr.makeMap 87 none).run Try.prog w = .ok (.map (some w.heap.size)) (w.alloc (.map #[] 0)) := rfl
def mapK (W : World) (o : Obj) : World := W.alloc o
theorem mapK_at (W : World) (o : Obj) : (mapK W o).heap[W.heap.size]? = some o := (MapKept.heap_alloc W _).1
theorem setB_new (W : World) (a b : Obj) : setB (mapK W a) W.heap.size b = mapK W b := by
  refine World.ext_heap ?_ rfl rfl rfl rfl
  show (W.heap.push a).setIfInBounds W.heap.size b = W.heap.push b
  apply Array.ext'
  rw [Array.toList_setIfInBounds, Array.toList_push, Array.toList_push, ← Array.length_toList, List.set_append_right _ _ (Nat.le_refl _)]
  simp
theorem mputR_all {κ : Type} [DecidableEq κ] {kenc : κ → Value} {P : Program} {mt kt et : TypeId} {ps : List (κ × Value)} {o : Obj} (K : KeyE P kt kenc) (hm : P.underlying mt = some (.map kt et)) (ho : IsMapO kenc o ps) (k : κ) (v : Value) :
    ∃ o', IsMapO kenc o' (putA k v ps) ∧ ∀ (b : Nat) (w : World), w.heap[b]? = some o → mputR P mt (.map (some b)) (kenc k) v w = .ok () (setB w b o') := by
  obtain ⟨es, clock, rfl, he⟩ := ho
  have hf := K.find k ps es.toList
  cases h : findP k ps 0 with
  | none =>
    refine ⟨.map (es.push { key := kenc k, val := v, born := clock }) (clock + 1), ⟨_, _, rfl, ?_⟩, fun b w hb => ?_⟩
    · rw [(findP_none h).2.1, Array.toList_push, List.map_append, List.map_append, he]; rfl
    · unfold mputR
      simp only [Instr.mapUpdate, Sem.run_bind, run_underlying hm, Result.andThen, getObj, Sem.run, hb, K.check, hf _ he, h, setObj, setB]
  | some p =>
    obtain ⟨j, u⟩ := p
    obtain ⟨n, hj, h2, h3, h4, h5⟩ := findP_some h
    obtain rfl : n = j := by omega
    have hl := congrArg List.length he
    simp only [List.length_map] at hl
    obtain ⟨hn, e2⟩ := List.getElem?_eq_some_iff.1 h2
    have hn2 : n < es.size := by rw [Array.length_toList] at hl; omega
    obtain ⟨e0, hkey⟩ : ∃ e0, es[n]? = some e0 := ⟨_, Array.getElem?_eq_getElem hn2⟩
    have hk : e0.key = kenc k := by
      have := congrArg (fun l => l[n]?) he
      simp only [List.getElem?_map, h2, Array.getElem?_toList, hkey, Option.map_some, Option.some.injEq, Prod.mk.injEq] at this
      exact this.1
    refine ⟨.map (es.modify n fun e => { e with key := kenc k, val := v }) clock, ⟨_, _, rfl, ?_⟩, fun b w hb => ?_⟩
    · rw [h4]
      apply List.ext_getElem?
      intro i
      have hi := congrArg (fun l => l[i]?) he
      simp only [List.getElem?_map, Array.getElem?_toList] at hi
      simp only [List.getElem?_map, Array.getElem?_toList, Array.getElem?_modify, List.getElem?_set]
      by_cases hni : n = i
      · subst hni
        simp [hkey, hn]
      · simp only [hni, if_false]; exact hi
    · unfold mputR
      have hs := K.same k
      simp only [Instr.mapUpdate, Sem.run_bind, run_underlying hm, Result.andThen, getObj, Sem.run, hb, K.check, Sem.run_pure, hf _ he, h, setObj, setB, Instr.keyThatStays, hkey, Option.map_some, Option.getD_some, hk, hs, if_true]
theorem put_kind {ps : List (Int × Value)} {o : Obj} (ho : IsMapO (fun k : Int => Value.int .i64 k) o ps) (k : Int) (v : Value) : ∃ o', IsMapO (fun k : Int => Value.int .i64 k) o' (putA k v ps) ∧ ∀ W : World, mputR Try.prog 87 (.map (some W.heap.size)) (.int .i64 k) v (mapK W o) = .ok () (mapK W o') := by
  obtain ⟨o', h1, h2⟩ := mputR_all key_int Try.underlying87 ho k v
  exact ⟨o', h1, fun W => by rw [h2 _ _ (mapK_at W _), setB_new]⟩
theorem kinds_any (W : World) : Calls Try.prog 34 #[] W fun e w' => ∃ bm, e = .returned (.map (some bm)) ∧ MapAt (fun k : Int => Value.int .i64 k) w' bm kindL ∧ W.heap.size ≤ bm ∧ Chg [] W w' := by
  have hm : ∀ w : World, (Instr.makeMap 87 none).run Try.prog w = .ok (.map (some w.heap.size)) (mapK w (.map #[] 0)) := make_kinds
  have i0 : IsMapO (fun k : Int => Value.int .i64 k) (.map #[] 0) ([] : List (Int × Value)) := isMap_empty _
  obtain ⟨o1, i1, h1⟩ := put_kind i0 1 (kfn 44)
  obtain ⟨o2, i2, h2⟩ := put_kind i1 2 (kfn 45)
  obtain ⟨o3, i3, h3⟩ := put_kind i2 3 (kfn 46)
  obtain ⟨o4, i4, h4⟩ := put_kind i3 4 (kfn 47)
  obtain ⟨o5, i5, h5⟩ := put_kind i4 5 (kfn 48)
  obtain ⟨o6, i6, h6⟩ := put_kind i5 6 (kfn 49)
  obtain ⟨o7, i7, h7⟩ := put_kind i6 7 (kfn 50)
  obtain ⟨o8, i8, h8⟩ := put_kind i7 8 (kfn 51)
  obtain ⟨o9, i9, h9⟩ := put_kind i8 9 (kfn 52)
  obtain ⟨o10, i10, h10⟩ := put_kind i9 10 (kfn 52)
  obtain ⟨o11, i11, h11⟩ := put_kind i10 11 (kfn 53)
  obtain ⟨o12, i12, h12⟩ := put_kind i11 12 (kfn 54)
  obtain ⟨o13, i13, h13⟩ := put_kind i12 13 (kfn 55)
  obtain ⟨o14, i14, h14⟩ := put_kind i13 14 (kfn 56)
  have i15 : IsMapO (fun k : Int => Value.int .i64 k) o14 kindL := i14
  have I := Lib.hid i15
  clear i0 i1 i2 i3 i4 i5 i6 i7 i8 i9 i10 i11 i12 i13 i14 i15
  unfold kfn at h1 h2 h3 h4 h5 h6 h7 h8 h9 h10 h11 h12 h13 h14
  go_enter Try.func34, Try.ntmps34
  go_wp2_with fail
  go_ret
  exact ⟨W.heap.size, rfl, ⟨o14, mapK_at W _, I.out⟩, Nat.le_refl _, (Chg.refl [] W).alloc _⟩
theorem wideCf : Wide Try.prog 23 7 := ⟨⟨_, Try.underlying23, by rfl⟩, by kernel_rfl⟩
theorem loadCf (x : Value) : Instr.loadAt 23 x = loadS 23 7 x := rfl
theorem storeCf (x y : Value) : Instr.storeAt 23 x y = storeS 23 7 x y := rfl
attribute [local go_sem ↓] loadCf storeCf
attribute [local go_sem] wideCf
theorem int_info : (Try.prog.info? 3).map (fun i => (i.zero, i.size, i.bytes)) = some (some (.int .i64 0), 1, 8) := by kernel_rfl
theorem made_ints (n : Nat) : madeCells #[Value.int .i64 0] (n * 1) = ic (List.replicate n 0) := by
  apply Array.ext
  · simp [madeCells, ic]
  · intro i h1 h2
    simp [madeCells, ic, Nat.mod_one]
theorem run_make_ints (w : World) (n : Nat) (hn : n ≤ 64) : mkR Try.prog 57 (.int .i64 n) (.int .i64 n) w = .ok (.slice (some ⟨w.heap.size, 0, none⟩) n n) (w.alloc (.cells (ic (List.replicate n 0)) 3)) := by
  obtain ⟨i0, hi0, hz0, hz1, hz2⟩ := info_parts int_info
  have := run_make (P := Try.prog) w 57 3 i0 _ Try.underlying57 hi0 hz0 .i64 .i64 n n (by omega) (by omega) (by rw [hz2]; omega) (by omega)
  simp only [Int.toNat_natCast, hz1] at this
  rw [← made_ints]
  exact this
theorem build_bus (v : Int) (A B : Option Addr) (n c m k : Nat) (M : Option Nat) (w : World) : (Instr.build 89 #[(0, .int .i64 v), (3, .slice A n c), (4, .slice B m k), (5, .map M)]).run Try.prog w = .ok (.agg #[.int .i64 v, .slice none 0 0, .slice none 0 0, .slice A n c, .slice B m k, .map M]) w := by kernel_rfl
def bldS (t : TypeId) (ps : Array (Nat × Value)) : Sem Value := Instr.build t ps
theorem build_bldS (ps : Array (Nat × Value)) : Instr.build 89 ps = bldS 89 ps := rfl
theorem run_bldS (v : Int) (A B : Option Addr) (n c m k : Nat) (M : Option Nat) (w : World) : (bldS 89 #[(0, .int .i64 v), (3, .slice A n c), (4, .slice B m k), (5, .map M)]).run Try.prog w = .ok (.agg #[.int .i64 v, .slice none 0 0, .slice none 0 0, .slice A n c, .slice B m k, .map M]) w := build_bus v A B n c m k M w
attribute [local go_sem ↓] build_bldS
attribute [local go_sem] run_bldS
def bs0 (n m v : Nat) : Bs := ⟨v, List.replicate (n * 8) 0, List.replicate (n * 8) 0, List.replicate n 0, List.replicate m bcZ⟩
set_option maxHeartbeats 300000 in
theorem slR_to (b n cap k : Nat) (h1 : k ≤ n) (h2 : n ≤ cap) (w : World) : slR Try.prog 24 (.slice (some ⟨b, 0, none⟩) n cap) none (some (.int .i64 k)) none w = .ok (.slice (some ⟨b, 0, none⟩) k cap) w := by
  obtain ⟨i0, hi0, hz0, hz1, hz2⟩ := info_parts line_info
  unfold slR
  have h3 : (0 : Int) ≤ (k : Int) := by omega
  have h4 : k ≤ cap := by omega
  have h6 : (⟨b, 0, none⟩ : Addr).add 0 = ⟨b, 0, none⟩ := by simp [Addr.add]
  simp [Instr.slice, Instr.sliceBounds, Instr.sliceBound, asIntOf, run_underlying Try.underlying24, sizeOf, typeInfo, hi0, h3, h4, h6]
theorem copy_none (w : World) (b n c : Nat) (C : Array Value) (T : TypeId) (hb : w.heap[b]? = some (.cells C T (0, 0))) (ty : TypeId) : copR Try.prog 24 24 ty #[.slice (some ⟨b, 0, none⟩) n c, .slice none 0 0] w = .ok (.int .i64 0) w := by
  obtain ⟨i0, hi0, hz0, hz1, hz2⟩ := info_parts line_info
  have := run_copy_sl (P := Try.prog) (t := 24) (t' := 24) (ty := ty) Try.underlying24 hi0 w b 0 none 0 0 n c [] ⟨by simp, .inl rfl⟩ (Nat.zero_le _) (by simp) (by rw [hb, rowHas_some]; simp [Fit])
  exact this
theorem clear_lines (w : World) (b v c : Nat) (ty : TypeId) (h0 : 0 < v) (hb : rowHas (w.heap[b]?) 0 (v * 8) = true) : clrR Try.prog 24 ty #[.slice (some ⟨b, 0, none⟩) v c] w = .ok (.tuple #[]) (putRow w b 0 (vs (List.replicate (v * 8) 0))) := by
  have hzv : ∀ w, (zeroValue 44).run Try.prog w = .ok (.agg (vs zero8)) w := fun w => by
    obtain ⟨i0, hi0, hz0, hz1, hz2⟩ := info_parts line_info
    simp [zeroValue, typeInfo, hi0, hz0]
  have hcl := run_clear_row (P := Try.prog) (t := 24) (ty := ty) Try.underlying24 hzv (by intro v hv; simp [Value.cells, vs, zero8] at hv; rcases hv with rfl | rfl; rfl) w b v c h0 (by rw [show (Value.agg (vs zero8)).cells.size = 8 from rfl]; exact hb)
  rw [show (Value.agg (vs zero8)).cells = vs [0, 0, 0, 0, 0, 0, 0, 0] from rfl, zeros_made] at hcl
  exact hcl
theorem forget_zeros (n v : Nat) (h : v ≤ n) : forget (List.replicate (n * 8) 0) v = List.replicate (n * 8) 0 := by
  unfold forget splice
  rw [List.take_zero, List.nil_append, List.length_replicate, List.drop_replicate]
  simp
  omega
/-- What lies in memory when the bus's own block is made. -/
structure NewP (n m v : Nat) (W w : World) (q bp bc bm : Nat) (L : List (Nat × Nat)) : Prop where
  chg : Chg [] W w
  hq : w.heap[q]? = some (.cells #[.int .i64 v, .slice none 0 0, .slice none 0 0, .slice (some ⟨bp, 0, none⟩) n n, .slice (some ⟨bc, 0, none⟩) m m, .map (some bm)] 89 (0, 0))
  hp : w.heap[bp]? = some (.cells (ic (List.replicate n 0)) 3 (0, 0))
  hb : w.heap[bc]? = some (.cells (sq czE (czs L m) []) 111 (0, 0))
  maps : ∀ z ∈ pairs L, w.heap[z]? = some (.map #[] 0)
  hm : MapAt (fun k : Int => Value.int .i64 k) w bm kindL
  nd : ([q, bp, bc, bm] ++ pairs L).Nodup
  new : ∀ z ∈ [q, bp, bc, bm] ++ pairs L, W.heap.size ≤ z
theorem nodup4 {q bp bc bm : Nat} {l : List Nat} (hl : l.Nodup) (h1 : q ≠ bp) (h2 : q ≠ bc) (h3 : q ≠ bm) (h4 : bp ≠ bc) (h5 : bp ≠ bm) (h6 : bc ≠ bm) (h : ∀ z ∈ l, z ≠ q ∧ z ≠ bp ∧ z ≠ bc ∧ z ≠ bm) : ([q, bp, bc, bm] ++ l).Nodup := by
  rw [List.nodup_append]
  refine ⟨by simp [h1, h2, h3, h4, h5, h6], hl, fun x hx y hy => ?_⟩
  obtain ⟨a, b, c, d⟩ := h y hy
  simp only [List.mem_cons, List.not_mem_nil, or_false] at hx
  rcases hx with rfl | rfl | rfl | rfl
  · exact Ne.symm a
  · exact Ne.symm b
  · exact Ne.symm c
  · exact Ne.symm d
theorem size_drew (w : World) : w.drew.heap.size = w.heap.size := rfl
theorem newP1 {n m v : Nat} {w2 u1 u2 : World} {bc bm : Nat} {L : List (Nat × Nat)} (hC : Cores (w2.alloc (.cells (ic (List.replicate n 0)) 3)).drew u1 bc m L) (hK : MapAt (fun k : Int => Value.int .i64 k) u2 bm kindL) (hk0 : u1.heap.size ≤ bm) (hk1 : Chg [] u1 u2) :
    NewP n m v w2 (u2.alloc (.cells #[.int .i64 v, .slice none 0 0, .slice none 0 0, .slice (some ⟨w2.heap.size, 0, none⟩) n n, .slice (some ⟨bc, 0, none⟩) m m, .map (some bm)] 89)) u2.heap.size w2.heap.size bc bm L := by
  have p0 : (w2.alloc (.cells (ic (List.replicate n 0)) 3)).drew.heap[w2.heap.size]? = some (.cells (ic (List.replicate n 0)) 3 (0, 0)) := (MapKept.heap_alloc w2 _).1
  have s0 : (w2.alloc (.cells (ic (List.replicate n 0)) 3)).drew.heap.size = w2.heap.size + 1 := by rw [size_drew]; simp
  have d0 : Chg [] w2 (w2.alloc (.cells (ic (List.replicate n 0)) 3)).drew := ((Chg.refl [] w2).alloc _).drew
  generalize (w2.alloc (.cells (ic (List.replicate n 0)) 3)).drew = w3 at *
  have a1 := hC.new
  have a2 := lt_heap hC.hb
  have a3 := hk1.size
  have a4 : bm < u2.heap.size := by obtain ⟨o, ho, _⟩ := hK; exact lt_heap ho
  have hz : ∀ z ∈ pairs L, bc < z ∧ z < u1.heap.size := fun z hz => ⟨(hC.maps z hz).2, lt_heap (hC.maps z hz).1⟩
  have d3 : ∀ o, Chg [] u2 (u2.alloc o) := fun o => (Chg.refl [] u2).alloc o
  refine ⟨((d0.trans hC.chg).trans hk1).trans (d3 _), (MapKept.heap_alloc u2 _).1, (d3 _).keep (hk1.keep (hC.chg.keep p0 (by simp)) (by simp)) (by simp), (d3 _).keep (hk1.keep hC.hb (by simp)) (by simp), fun z hz => (d3 _).keep (hk1.keep (hC.maps z hz).1 (by simp)) (by simp), hK.keep (d3 _) (by simp), nodup4 hC.nd (by omega) (by omega) (by omega) (by omega) (by omega) (by omega) (fun z h => by have := hz z h; omega), fun z h => ?_⟩
  rcases List.mem_append.1 h with h | h
  · simp only [List.mem_cons, List.not_mem_nil, or_false] at h
    omega
  · have := hz z h; omega
theorem newP2 {n m v : Nat} {w2 u1 u2 : World} {bc bm : Nat} {L : List (Nat × Nat)} (hC : Cores w2.drew u1 bc m L) (hK : MapAt (fun k : Int => Value.int .i64 k) u2 bm kindL) (hk0 : (u1.alloc (.cells (ic (List.replicate n 0)) 3)).heap.size ≤ bm) (hk1 : Chg [] (u1.alloc (.cells (ic (List.replicate n 0)) 3)) u2) :
    NewP n m v w2 (u2.alloc (.cells #[.int .i64 v, .slice none 0 0, .slice none 0 0, .slice (some ⟨u1.heap.size, 0, none⟩) n n, .slice (some ⟨bc, 0, none⟩) m m, .map (some bm)] 89)) u2.heap.size u1.heap.size bc bm L := by
  have p0 : (u1.alloc (.cells (ic (List.replicate n 0)) 3)).heap[u1.heap.size]? = some (.cells (ic (List.replicate n 0)) 3 (0, 0)) := (MapKept.heap_alloc u1 _).1
  have s0 : (u1.alloc (.cells (ic (List.replicate n 0)) 3)).heap.size = u1.heap.size + 1 := by simp
  have d0 : Chg [] u1 (u1.alloc (.cells (ic (List.replicate n 0)) 3)) := (Chg.refl [] u1).alloc _
  generalize u1.alloc (.cells (ic (List.replicate n 0)) 3) = u3 at *
  have a1 : w2.heap.size ≤ bc := hC.new
  have a2 := lt_heap hC.hb
  have a3 := hk1.size
  have a4 : bm < u2.heap.size := by obtain ⟨o, ho, _⟩ := hK; exact lt_heap ho
  have hz : ∀ z ∈ pairs L, bc < z ∧ z < u1.heap.size := fun z hz => ⟨(hC.maps z hz).2, lt_heap (hC.maps z hz).1⟩
  have d3 : ∀ o, Chg [] u2 (u2.alloc o) := fun o => (Chg.refl [] u2).alloc o
  have k1 := d0.trans hk1
  refine ⟨((((Chg.refl [] w2).drew).trans hC.chg).trans k1).trans (d3 _), (MapKept.heap_alloc u2 _).1, (d3 _).keep (hk1.keep p0 (by simp)) (by simp), (d3 _).keep (k1.keep hC.hb (by simp)) (by simp), fun z hz => (d3 _).keep (k1.keep (hC.maps z hz).1 (by simp)) (by simp), hK.keep (d3 _) (by simp), nodup4 hC.nd (by omega) (by omega) (by omega) (by omega) (by omega) (by omega) (fun z h => by have := hz z h; omega), fun z h => ?_⟩
  rcases List.mem_append.1 h with h | h
  · simp only [List.mem_cons, List.not_mem_nil, or_false] at h
    omega
  · have := hz z h; omega
theorem newP3 {n m v : Nat} {w2 u1 u2 : World} {bc bm : Nat} {L : List (Nat × Nat)} (hC : Cores w2.drew u1 bc m L) (hK : MapAt (fun k : Int => Value.int .i64 k) u2 bm kindL) (hk0 : u1.heap.size ≤ bm) (hk1 : Chg [] u1 u2) :
    NewP n m v w2 ((u2.alloc (.cells (ic (List.replicate n 0)) 3)).alloc (.cells #[.int .i64 v, .slice none 0 0, .slice none 0 0, .slice (some ⟨u2.heap.size, 0, none⟩) n n, .slice (some ⟨bc, 0, none⟩) m m, .map (some bm)] 89)) (u2.heap.size + 1) u2.heap.size bc bm L := by
  have p0 : (u2.alloc (.cells (ic (List.replicate n 0)) 3)).heap[u2.heap.size]? = some (.cells (ic (List.replicate n 0)) 3 (0, 0)) := (MapKept.heap_alloc u2 _).1
  have s0 : (u2.alloc (.cells (ic (List.replicate n 0)) 3)).heap.size = u2.heap.size + 1 := by simp
  have d0 : Chg [] u2 (u2.alloc (.cells (ic (List.replicate n 0)) 3)) := (Chg.refl [] u2).alloc _
  generalize u2.alloc (.cells (ic (List.replicate n 0)) 3) = u3 at *
  have a1 : w2.heap.size ≤ bc := hC.new
  have a2 := lt_heap hC.hb
  have a3 := hk1.size
  have a4 : bm < u2.heap.size := by obtain ⟨o, ho, _⟩ := hK; exact lt_heap ho
  have hz : ∀ z ∈ pairs L, bc < z ∧ z < u1.heap.size := fun z hz => ⟨(hC.maps z hz).2, lt_heap (hC.maps z hz).1⟩
  have d3 : ∀ o, Chg [] u3 (u3.alloc o) := fun o => (Chg.refl [] u3).alloc o
  have k1 := hk1.trans d0
  refine ⟨((((Chg.refl [] w2).drew).trans hC.chg).trans k1).trans (d3 _), ?_, (d3 _).keep p0 (by simp), (d3 _).keep (k1.keep hC.hb (by simp)) (by simp), fun z hz => (d3 _).keep (k1.keep (hC.maps z hz).1 (by simp)) (by simp), (hK.keep d0 (by simp)).keep (d3 _) (by simp), nodup4 hC.nd (by omega) (by omega) (by omega) (by omega) (by omega) (by omega) (fun z h => by have := hz z h; omega), fun z h => ?_⟩
  · rw [← s0]; exact (MapKept.heap_alloc u3 _).1
  rcases List.mem_append.1 h with h | h
  · simp only [List.mem_cons, List.not_mem_nil, or_false] at h
    omega
  · have := hz z h; omega
theorem newB {n m v : Nat} {W w2 w5 w6 w7 w8 : World} {q bp bc bm kb bl cl : Nat} {L : List (Nat × Nat)} {r : List Value} (NP : NewP n m v w2 w5 q bp bc bm L) (hL : L.length = m) (hW : Chg [] W w2) (hkb : w5.heap.size = kb) (d6 : Chg [q] w5 w6) (d7 : Chg [kb] w6 w7) (c8 : Chg [] w7 w8)
    (hk7 : w7.heap[kb]? = some (.cells (bk (List.replicate (n * 8) 0) []) 44 (0, 0))) (hl8 : w8.heap[bl]? = some (.cells ((List.replicate (n * 8) 0).map (Value.int .u64) ++ r).toArray 44 (0, 0))) (hge : w7.heap.size ≤ bl)
    (hq8 : w8.heap[q]? = some (.cells #[.int .i64 v, .slice none 0 0, .slice (some ⟨kb, 0, none⟩) n n, .slice (some ⟨bp, 0, none⟩) n n, .slice (some ⟨bc, 0, none⟩) m m, .map (some bm)] 89 (0, 0))) :
    BusM n m (w8.setCell ⟨q, 1, none⟩ (.slice (some ⟨bl, 0, none⟩) n cl)) q ([q, bl, kb, bp, bc, bm] ++ pairs L) (bs0 n m v) ∧ (∀ z ∈ [q, bl, kb, bp, bc, bm] ++ pairs L, W.heap.size ≤ z) ∧ Chg [] W (w8.setCell ⟨q, 1, none⟩ (.slice (some ⟨bl, 0, none⟩) n cl)) := by
  have d9 : Chg [q] w8 (w8.setCell ⟨q, 1, none⟩ (.slice (some ⟨bl, 0, none⟩) n cl)) := (Chg.refl [q] w8).setCell _ _ _ (.inl (by simp))
  have hq9 : (w8.setCell ⟨q, 1, none⟩ (.slice (some ⟨bl, 0, none⟩) n cl)).heap[q]? = some (.cells (busc v bl cl n kb bp bc m bm) 89 (0, 0)) := by
    rw [heap_setCell, if_pos rfl, hq8, rowSet_some]; rfl
  generalize w8.setCell ⟨q, 1, none⟩ (.slice (some ⟨bl, 0, none⟩) n cl) = w9 at *
  have hnd := NP.nd
  have hnew := NP.new
  have hs2 := hW.size
  rw [List.nodup_append] at hnd
  obtain ⟨e1, e2, e3⟩ := hnd
  simp only [List.nodup_cons, List.mem_cons, List.not_mem_nil, or_false, not_or, List.nodup_nil, not_false_eq_true, and_true] at e1
  obtain ⟨⟨f1, f2, f3⟩, ⟨f4, f5⟩, f6⟩ := e1
  have o1 := lt_heap NP.hq
  have o2 := lt_heap NP.hp
  have o3 := lt_heap NP.hb
  have o4 : bm < w5.heap.size := by obtain ⟨o, ho, _⟩ := NP.hm; exact lt_heap ho
  have o5 : ∀ z ∈ pairs L, z < w5.heap.size ∧ w2.heap.size ≤ z := fun z hz => ⟨lt_heap (NP.maps z hz), hnew z (by simp [hz])⟩
  have o6 := d6.size
  have o8 := lt_heap hk7
  have o7 := d7.size
  have n1 := hnew q (by simp)
  have n2 := hnew bp (by simp)
  have n3 := hnew bc (by simp)
  have n4 := hnew bm (by simp)
  have hs5 := NP.chg.size
  have D : Chg [q, kb] w5 w9 := ((d6.mono (by simp)).trans (d7.mono (by simp))).trans ((c8.mono (by simp)).trans (d9.mono (by simp)))
  have hkp : ∀ z, z < w5.heap.size → z ≠ q → z ∉ [q, kb] := fun z h1 h2 => by simp; omega
  refine ⟨⟨bl, cl, kb, bp, bc, bm, L.map cxZ, L.map (fun p => [p.1, p.2]), List.Perm.refl _, ?_, hq9, ⟨r, ?_⟩, ?_, D.keep NP.hp (hkp _ o2 (Ne.symm f1)), ?_, NP.hm.keep D (hkp _ o4 (Ne.symm f3)), by simp [hL], by simp [bs0], by simp [hL], ?_⟩, fun z hz => ?_, ?_⟩
  · rw [List.nodup_append]
    refine ⟨?_, e2, fun x hx y hy => ?_⟩
    · simp only [List.nodup_cons, List.mem_cons, List.not_mem_nil, or_false, not_or, List.nodup_nil, not_false_eq_true, and_true]
      refine ⟨⟨by omega, by omega, f1, f2, f3⟩, ⟨by omega, by omega, by omega, by omega⟩, ⟨by omega, by omega, by omega⟩, ⟨f4, f5⟩, f6⟩
    · have h5 := o5 y hy
      have h3 : ∀ x ∈ [q, bp, bc, bm], x ≠ y := fun x hx => e3 x hx y hy
      simp only [List.mem_cons, List.not_mem_nil, or_false, forall_eq_or_imp, forall_eq] at h3
      simp only [List.mem_cons, List.not_mem_nil, or_false] at hx
      rcases hx with rfl | rfl | rfl | rfl | rfl | rfl <;> omega
  · exact d9.keep hl8 (by simp; omega)
  · exact d9.keep (c8.keep hk7 (by simp)) (by simp; omega)
  · have := D.keep NP.hb (hkp _ o3 (Ne.symm f2))
    rw [czs_all hL] at this
    exact this
  · intro i x g c h1 h2 h3
    obtain ⟨u, hu, rfl⟩ : ∃ u, L[i]? = some u ∧ cxZ u = x := by simpa [List.getElem?_map, Option.map_eq_some_iff] using h1
    have h2' : [u.1, u.2] = g := by rw [List.getElem?_map, hu] at h2; simpa using h2
    have h3' : bcZ = c := by
      simp only [bs0] at h3
      rw [List.getElem?_replicate] at h3
      split at h3
      · simpa using h3
      · cases h3
    subst h2' h3'
    have hm : ∀ z ∈ [u.1, u.2], w9.heap[z]? = some (.map #[] 0) := fun z hz => by
      have hz' : z ∈ pairs L := List.mem_flatten.2 ⟨_, List.mem_map.2 ⟨u, List.mem_of_getElem? hu, rfl⟩, hz⟩
      exact D.keep (NP.maps z hz') (hkp z (o5 z hz').1 (fun e => e3 q (by simp) z hz' e.symm))
    exact bcZ_com (hm u.1 (by simp)) (hm u.2 (by simp))
  · rcases List.mem_append.1 hz with hz | hz
    · simp only [List.mem_cons, List.not_mem_nil, or_false] at hz
      rcases hz with rfl | rfl | rfl | rfl | rfl | rfl <;> omega
    · have := o5 z hz; omega
  · exact (hW.trans NP.chg).trans' D (fun z hz => by simp only [List.mem_cons, List.not_mem_nil, or_false] at hz; rcases hz with rfl | rfl <;> exact .inr (by omega))
theorem bnew_ok (m n v : Nat) (c3 c4 c5 c6 : Int) (hg : goodB m n v c3 c4 c5 c6 = true) (W : World) : Calls Try.prog 22 #[.agg #[.int .i64 m, .int .i64 n, .int .i64 v, .int .i64 c3, .int .i64 c4, .int .i64 c5, .int .i64 c6], .slice none 0 0] W fun e w' => ∃ q F, e = .returned (.tuple #[.pointer (some ⟨q, 0, none⟩), .int .i64 0]) ∧ BusM n m w' q F (bs0 n m v) ∧ (∀ z ∈ F, W.heap.size ≤ z) ∧ Chg [] W w' := by
  have hgd := fun w => good_any m n v c3 c4 c5 c6 w
  rw [hg] at hgd
  have hg' := of_decide_eq_true hg
  obtain ⟨a1, a2, a3, a4, a5, a6, _⟩ := hg'
  have hm8 : m ≤ 8 := by omega
  have hn64 : n ≤ 64 := by omega
  have hmp := fun w => run_make_ints w n hn64
  have hml := fun w => run_make_lines w n hn64
  clear hg
  go_enter Try.func22, Try.ntmps22
  obtain ⟨n1, n2⟩ := one_new W (.cells #[.int .i64 m, .int .i64 n, .int .i64 v, .int .i64 c3, .int .i64 c4, .int .i64 c5, .int .i64 c6] 23)
  have N2 := Lib.hid n2
  clear n2
  go_upto_region 1 with fail
  generalize W.alloc (.cells #[.int .i64 m, .int .i64 n, .int .i64 v, .int .i64 c3, .int .i64 c4, .int .i64 c5, .int .i64 c6] 23) = w1 at *
  generalize W.heap.size = p at *
  go_upto_region 3 with (go_at_call 32; refine (hgd _).mono ?_; rintro e w' ⟨rfl, hw'⟩; have cw : Chg [] w1 w' := by { rw [hw']; exact (Chg.refl [] w1).alloc _ }; clear hw'; have n3 := cw.keep n1 (by simp); have CW := Lib.hid cw; clear cw)
  have N3 := Lib.hid (N2.out.trans CW.out)
  have hv1 : 0 < v := by omega
  have hvn : v < n := by omega
  clear N2 CW n1 hgd a1 a2 a3 a4 a5 a6
  generalize w' = w2 at *
  clear hml
  go_region_held3 (fun w' => w'.heap[p]? = some (Obj.cells #[.int .i64 m, .int .i64 n, .int .i64 v, .int .i64 c3, .int .i64 c4, .int .i64 c5, .int .i64 c6] 23 (0, 0))) (first | exact n3 | exact n4 | exact n5 | (rw [heap_drew, n3]) | (rw [heap_drew, n4]) | (rw [heap_drew, heap_alloc, n3]; rfl) | (rw [heap_alloc, n3]; rfl) | (rw [heap_drew, heap_alloc, n4]; rfl) | (rw [heap_alloc, n4]; rfl) | (rw [heap_drew, heap_alloc, n5]; rfl) | (rw [heap_alloc, n5]; rfl) | (rw [heap_alloc, heap_alloc, n5]; rfl) | (rw [heap_alloc, heap_drew, heap_alloc, n5]; rfl) | (rw [heap_alloc, heap_drew, n5]; rfl) | (rw [heap_alloc, heap_alloc, n4]; rfl) | (rw [heap_alloc, heap_drew, heap_alloc, n4]; rfl))
    (first | (go_at_call 33; refine (newcores_any m hm8 _).mono ?_; rintro e u1 ⟨bc, L, rfl, hL, hC⟩; have n4 : u1.heap[p]? = some (Obj.cells #[.int .i64 m, .int .i64 n, .int .i64 v, .int .i64 c3, .int .i64 c4, .int .i64 c5, .int .i64 c6] 23 (0, 0)) := hC.chg.keep (by first | with_reducible exact n3 | (rw [heap_drew, n3]) | (rw [heap_drew, heap_alloc, n3]; rfl) | (rw [heap_alloc, n3]; rfl)) (by simp); have HC := Lib.hid hC; have HL := Lib.hid hL; clear hC hL) | (go_at_call 34; refine (kinds_any _).mono ?_; rintro e u2 ⟨bm, rfl, hK, hk0, hk1⟩; have n5 : u2.heap[p]? = some (Obj.cells #[.int .i64 m, .int .i64 n, .int .i64 v, .int .i64 c3, .int .i64 c4, .int .i64 c5, .int .i64 c6] 23 (0, 0)) := hk1.keep (by first | with_reducible exact n4 | (rw [heap_drew, n4]) | (rw [heap_drew, heap_alloc, n4]; rfl) | (rw [heap_alloc, n4]; rfl)) (by simp); have HK := Lib.hid hK; have HK0 := Lib.hid hk0; have HK1 := Lib.hid hk1; clear hK hk0 hk1))
  · have NP := Lib.hid (newP1 (v := v) HC.out HK.out HK0.out HK1.out)
    have n6 := ((Chg.refl [] u2).alloc (.cells #[.int .i64 v, .slice none 0 0, .slice none 0 0, .slice (some ⟨w2.heap.size, 0, none⟩) n n, .slice (some ⟨bc, 0, none⟩) m m, .map (some bm)] 89)).keep n5 (by simp)
    clear HC HK HK0 HK1 n4 n5
    generalize u2.alloc (.cells #[.int .i64 v, .slice none 0 0, .slice none 0 0, .slice (some ⟨w2.heap.size, 0, none⟩) n n, .slice (some ⟨bc, 0, none⟩) m m, .map (some bm)] 89) = w5 at *
    generalize u2.heap.size = q at *
    generalize w2.heap.size = bp at *
    have hpq : p ≠ q := by have := lt_heap n3; have := NP.out.new q (by simp); omega
    have hq := NP.out.hq
    have oq := old hq
    have op := old n6
    have hml := fun w => run_make_lines w n hn64
    go_upto_region 5 with fail
    have hk6 : ((w5.alloc (Obj.cells (bk (List.replicate (n * 8) 0) []) 44)).setCell { block := q, off := 2 } (Value.slice (some { block := w5.heap.size, off := 0 }) n n)).heap[w5.heap.size]? = some (.cells (bk (List.replicate (n * 8) 0) []) 44 (0, 0)) := by
      rw [heap_setCell, if_neg (by have := oq.lt; omega)]; exact (MapKept.heap_alloc w5 _).1
    have hq6 : ((w5.alloc (Obj.cells (bk (List.replicate (n * 8) 0) []) 44)).setCell { block := q, off := 2 } (Value.slice (some { block := w5.heap.size, off := 0 }) n n)).heap[q]? = some (.cells #[.int .i64 v, .slice none 0 0, .slice (some ⟨w5.heap.size, 0, none⟩) n n, .slice (some ⟨bp, 0, none⟩) n n, .slice (some ⟨bc, 0, none⟩) m m, .map (some bm)] 89 (0, 0)) := by
      rw [heap_setCell, if_pos rfl, ((Chg.refl [] w5).alloc _).keep hq (by simp), rowSet_some]; rfl
    have d6 : Chg [q] w5 ((w5.alloc (Obj.cells (bk (List.replicate (n * 8) 0) []) 44)).setCell { block := q, off := 2 } (Value.slice (some { block := w5.heap.size, off := 0 }) n n)) := ((Chg.refl [q] w5).alloc _).setCell _ _ _ (.inl (by simp))
    generalize (w5.alloc (Obj.cells (bk (List.replicate (n * 8) 0) []) 44)).setCell { block := q, off := 2 } (Value.slice (some { block := w5.heap.size, off := 0 }) n n) = w6 at *
    have n7 := d6.keep n6 (by simpa using hpq)
    have hkl := Lib.hid (show ∀ z, Old w5 z → z ≠ w5.heap.size from fun z hz e => by have := hz.lt; omega)
    have hkge := Lib.hid (Nat.le_refl w5.heap.size)
    generalize hkb : w5.heap.size = kb at *
    have hpk : p ≠ kb := hkl.out p op
    have hqk : q ≠ kb := hkl.out q oq
    have D6 := Lib.hid d6
    have HKB := Lib.hid hkb
    have hcp := copy_none w6 kb n n _ _ hk6
    clear hq n6 d6 hml hkb oq op
    go_upto_region 6 with fail
    have hst := slR_to kb n n v (by omega) (Nat.le_refl _)
    have hfit : rowHas (w6.drew.heap[kb]?) 0 (v * 8) = true := by rw [heap_drew, hk6, rowHas_some, bk_size]; simp [Fit]; omega
    have hcl := fun ty => clear_lines w6.drew kb v n ty hv1 hfit
    have hk7 : (putRow w6.drew kb 0 (vs (List.replicate (v * 8) 0))).heap[kb]? = some (.cells (bk (List.replicate (n * 8) 0) []) 44 (0, 0)) := by
      rw [heap_putRow _ _ _ _ _ (by rw [vs_size, List.length_replicate]; exact hfit), if_pos rfl, heap_drew, hk6, rowPut_forget _ _ (by simp; omega), forget_zeros _ _ (by omega)]
    have d7 : Chg [kb] w6 (putRow w6.drew kb 0 (vs (List.replicate (v * 8) 0))) := ((Chg.refl [kb] w6).drew).putRow _ _ _ (.inl (by simp))
    have hv0 : (v : Int) ≤ (n : Int) := by omega
    go_region
    generalize putRow w6.drew kb 0 (vs (List.replicate (v * 8) 0)) = w7 at *
    have hq7 := d7.keep hq6 (by simpa using hqk)
    have D7 := Lib.hid d7
    have hsl := Sl.of_bk (n := n) hk7 (by simp)
    have oq7 := old hq7
    clear hcl hfit hq6 hk6 hst n7 hcp d7
    go_wp2_with (go_at_call 31; refine (clone_ok _ n n _ w7 hsl (by omega) (by omega)).mono ?_; rintro e w8 ⟨bl, cl, r, rfl, hl8, hge8, hcap, c8⟩; have hq8 := c8.keep hq7 (by simp); have HL8 := Lib.hid hl8; have HGE := Lib.hid hge8; have C8 := Lib.hid c8; clear hl8 hge8 c8)
    go_ret2
    exact ⟨q, _, rfl, newB NP.out HL.out N3.out HKB.out D6.out D7.out C8.out hk7 HL8.out HGE.out hq8⟩
  · have NP := Lib.hid (newP2 (v := v) HC.out HK.out HK0.out HK1.out)
    have n6 := ((Chg.refl [] u2).alloc (.cells #[.int .i64 v, .slice none 0 0, .slice none 0 0, .slice (some ⟨u1.heap.size, 0, none⟩) n n, .slice (some ⟨bc, 0, none⟩) m m, .map (some bm)] 89)).keep n5 (by simp)
    clear HC HK HK0 HK1 n4 n5
    generalize u2.alloc (.cells #[.int .i64 v, .slice none 0 0, .slice none 0 0, .slice (some ⟨u1.heap.size, 0, none⟩) n n, .slice (some ⟨bc, 0, none⟩) m m, .map (some bm)] 89) = w5 at *
    generalize u2.heap.size = q at *
    generalize u1.heap.size = bp at *
    have hpq : p ≠ q := by have := lt_heap n3; have := NP.out.new q (by simp); omega
    have hq := NP.out.hq
    have oq := old hq
    have op := old n6
    have hml := fun w => run_make_lines w n hn64
    go_upto_region 5 with fail
    have hk6 : ((w5.alloc (Obj.cells (bk (List.replicate (n * 8) 0) []) 44)).setCell { block := q, off := 2 } (Value.slice (some { block := w5.heap.size, off := 0 }) n n)).heap[w5.heap.size]? = some (.cells (bk (List.replicate (n * 8) 0) []) 44 (0, 0)) := by
      rw [heap_setCell, if_neg (by have := oq.lt; omega)]; exact (MapKept.heap_alloc w5 _).1
    have hq6 : ((w5.alloc (Obj.cells (bk (List.replicate (n * 8) 0) []) 44)).setCell { block := q, off := 2 } (Value.slice (some { block := w5.heap.size, off := 0 }) n n)).heap[q]? = some (.cells #[.int .i64 v, .slice none 0 0, .slice (some ⟨w5.heap.size, 0, none⟩) n n, .slice (some ⟨bp, 0, none⟩) n n, .slice (some ⟨bc, 0, none⟩) m m, .map (some bm)] 89 (0, 0)) := by
      rw [heap_setCell, if_pos rfl, ((Chg.refl [] w5).alloc _).keep hq (by simp), rowSet_some]; rfl
    have d6 : Chg [q] w5 ((w5.alloc (Obj.cells (bk (List.replicate (n * 8) 0) []) 44)).setCell { block := q, off := 2 } (Value.slice (some { block := w5.heap.size, off := 0 }) n n)) := ((Chg.refl [q] w5).alloc _).setCell _ _ _ (.inl (by simp))
    generalize (w5.alloc (Obj.cells (bk (List.replicate (n * 8) 0) []) 44)).setCell { block := q, off := 2 } (Value.slice (some { block := w5.heap.size, off := 0 }) n n) = w6 at *
    have n7 := d6.keep n6 (by simpa using hpq)
    have hkl := Lib.hid (show ∀ z, Old w5 z → z ≠ w5.heap.size from fun z hz e => by have := hz.lt; omega)
    have hkge := Lib.hid (Nat.le_refl w5.heap.size)
    generalize hkb : w5.heap.size = kb at *
    have hpk : p ≠ kb := hkl.out p op
    have hqk : q ≠ kb := hkl.out q oq
    have D6 := Lib.hid d6
    have HKB := Lib.hid hkb
    have hcp := copy_none w6 kb n n _ _ hk6
    clear hq n6 d6 hml hkb oq op
    go_upto_region 6 with fail
    have hst := slR_to kb n n v (by omega) (Nat.le_refl _)
    have hfit : rowHas (w6.drew.heap[kb]?) 0 (v * 8) = true := by rw [heap_drew, hk6, rowHas_some, bk_size]; simp [Fit]; omega
    have hcl := fun ty => clear_lines w6.drew kb v n ty hv1 hfit
    have hk7 : (putRow w6.drew kb 0 (vs (List.replicate (v * 8) 0))).heap[kb]? = some (.cells (bk (List.replicate (n * 8) 0) []) 44 (0, 0)) := by
      rw [heap_putRow _ _ _ _ _ (by rw [vs_size, List.length_replicate]; exact hfit), if_pos rfl, heap_drew, hk6, rowPut_forget _ _ (by simp; omega), forget_zeros _ _ (by omega)]
    have d7 : Chg [kb] w6 (putRow w6.drew kb 0 (vs (List.replicate (v * 8) 0))) := ((Chg.refl [kb] w6).drew).putRow _ _ _ (.inl (by simp))
    have hv0 : (v : Int) ≤ (n : Int) := by omega
    go_region
    generalize putRow w6.drew kb 0 (vs (List.replicate (v * 8) 0)) = w7 at *
    have hq7 := d7.keep hq6 (by simpa using hqk)
    have D7 := Lib.hid d7
    have hsl := Sl.of_bk (n := n) hk7 (by simp)
    have oq7 := old hq7
    clear hcl hfit hq6 hk6 hst n7 hcp d7
    go_wp2_with (go_at_call 31; refine (clone_ok _ n n _ w7 hsl (by omega) (by omega)).mono ?_; rintro e w8 ⟨bl, cl, r, rfl, hl8, hge8, hcap, c8⟩; have hq8 := c8.keep hq7 (by simp); have HL8 := Lib.hid hl8; have HGE := Lib.hid hge8; have C8 := Lib.hid c8; clear hl8 hge8 c8)
    go_ret2
    exact ⟨q, _, rfl, newB NP.out HL.out N3.out HKB.out D6.out D7.out C8.out hk7 HL8.out HGE.out hq8⟩
  · have NP := Lib.hid (newP3 (n := n) (v := v) HC.out HK.out HK0.out HK1.out)
    have n6 := (((Chg.refl [] u2).alloc (.cells (ic (List.replicate n 0)) 3)).alloc (.cells #[.int .i64 v, .slice none 0 0, .slice none 0 0, .slice (some ⟨u2.heap.size, 0, none⟩) n n, .slice (some ⟨bc, 0, none⟩) m m, .map (some bm)] 89)).keep n5 (by simp)
    clear HC HK HK0 HK1 n4 n5
    generalize (u2.alloc (.cells (ic (List.replicate n 0)) 3)).alloc (.cells #[.int .i64 v, .slice none 0 0, .slice none 0 0, .slice (some ⟨u2.heap.size, 0, none⟩) n n, .slice (some ⟨bc, 0, none⟩) m m, .map (some bm)] 89) = w5 at *
    generalize u2.heap.size + 1 = q at *
    generalize u2.heap.size = bp at *
    have hpq : p ≠ q := by have := lt_heap n3; have := NP.out.new q (by simp); omega
    have hq := NP.out.hq
    have oq := old hq
    have op := old n6
    have hml := fun w => run_make_lines w n hn64
    go_upto_region 5 with fail
    have hk6 : ((w5.alloc (Obj.cells (bk (List.replicate (n * 8) 0) []) 44)).setCell { block := q, off := 2 } (Value.slice (some { block := w5.heap.size, off := 0 }) n n)).heap[w5.heap.size]? = some (.cells (bk (List.replicate (n * 8) 0) []) 44 (0, 0)) := by
      rw [heap_setCell, if_neg (by have := oq.lt; omega)]; exact (MapKept.heap_alloc w5 _).1
    have hq6 : ((w5.alloc (Obj.cells (bk (List.replicate (n * 8) 0) []) 44)).setCell { block := q, off := 2 } (Value.slice (some { block := w5.heap.size, off := 0 }) n n)).heap[q]? = some (.cells #[.int .i64 v, .slice none 0 0, .slice (some ⟨w5.heap.size, 0, none⟩) n n, .slice (some ⟨bp, 0, none⟩) n n, .slice (some ⟨bc, 0, none⟩) m m, .map (some bm)] 89 (0, 0)) := by
      rw [heap_setCell, if_pos rfl, ((Chg.refl [] w5).alloc _).keep hq (by simp), rowSet_some]; rfl
    have d6 : Chg [q] w5 ((w5.alloc (Obj.cells (bk (List.replicate (n * 8) 0) []) 44)).setCell { block := q, off := 2 } (Value.slice (some { block := w5.heap.size, off := 0 }) n n)) := ((Chg.refl [q] w5).alloc _).setCell _ _ _ (.inl (by simp))
    generalize (w5.alloc (Obj.cells (bk (List.replicate (n * 8) 0) []) 44)).setCell { block := q, off := 2 } (Value.slice (some { block := w5.heap.size, off := 0 }) n n) = w6 at *
    have n7 := d6.keep n6 (by simpa using hpq)
    have hkl := Lib.hid (show ∀ z, Old w5 z → z ≠ w5.heap.size from fun z hz e => by have := hz.lt; omega)
    have hkge := Lib.hid (Nat.le_refl w5.heap.size)
    generalize hkb : w5.heap.size = kb at *
    have hpk : p ≠ kb := hkl.out p op
    have hqk : q ≠ kb := hkl.out q oq
    have D6 := Lib.hid d6
    have HKB := Lib.hid hkb
    have hcp := copy_none w6 kb n n _ _ hk6
    clear hq n6 d6 hml hkb oq op
    go_upto_region 6 with fail
    have hst := slR_to kb n n v (by omega) (Nat.le_refl _)
    have hfit : rowHas (w6.drew.heap[kb]?) 0 (v * 8) = true := by rw [heap_drew, hk6, rowHas_some, bk_size]; simp [Fit]; omega
    have hcl := fun ty => clear_lines w6.drew kb v n ty hv1 hfit
    have hk7 : (putRow w6.drew kb 0 (vs (List.replicate (v * 8) 0))).heap[kb]? = some (.cells (bk (List.replicate (n * 8) 0) []) 44 (0, 0)) := by
      rw [heap_putRow _ _ _ _ _ (by rw [vs_size, List.length_replicate]; exact hfit), if_pos rfl, heap_drew, hk6, rowPut_forget _ _ (by simp; omega), forget_zeros _ _ (by omega)]
    have d7 : Chg [kb] w6 (putRow w6.drew kb 0 (vs (List.replicate (v * 8) 0))) := ((Chg.refl [kb] w6).drew).putRow _ _ _ (.inl (by simp))
    have hv0 : (v : Int) ≤ (n : Int) := by omega
    go_region
    generalize putRow w6.drew kb 0 (vs (List.replicate (v * 8) 0)) = w7 at *
    have hq7 := d7.keep hq6 (by simpa using hqk)
    have D7 := Lib.hid d7
    have hsl := Sl.of_bk (n := n) hk7 (by simp)
    have oq7 := old hq7
    clear hcl hfit hq6 hk6 hst n7 hcp d7
    go_wp2_with (go_at_call 31; refine (clone_ok _ n n _ w7 hsl (by omega) (by omega)).mono ?_; rintro e w8 ⟨bl, cl, r, rfl, hl8, hge8, hcap, c8⟩; have hq8 := c8.keep hq7 (by simp); have HL8 := Lib.hid hl8; have HGE := Lib.hid hge8; have C8 := Lib.hid c8; clear hl8 hge8 c8)
    go_ret2
    exact ⟨q, _, rfl, newB NP.out HL.out N3.out HKB.out D6.out D7.out C8.out hk7 HL8.out HGE.out hq8⟩
end Go.Proofs.Ytnocekhgabgffaa
end
section
namespace Go.Proofs.Ytnocekhgabgffaa
open Go.RowKit
set_option linter.unusedVariables false
set_option maxHeartbeats 1000000

set_option maxRecDepth 100000
attribute [local go_sem ↓] append_appS copy_copS clear_clrS make_mkS slice_slS lookup_lookS mput_mputS del_mdelS cell_row frozen_row heap_drew heap_drewN heap_alloc heap_past heap_setCell heap_putRow heap_setB loadEv storeEv loadBe storeBe loadSp storeSp loadNw storeNw loadLine storeLine evc_kd evc_co evc_li evc_wo evc_va bec_fl bec_li bec_wo bec_va nwC_0 nwC_1 spC_0 spC_1
attribute [local go_sem] rowCell_some rowFrozen_some rowHas_some rowIn_some rowPart_full rowPart_lit rowPut_full rowPut_lit rowSet_some size_putRow size_setB run_loadS run_storeS run_appS run_copS run_clrS run_mkS run_slS run_lookS run_mputS run_mdelS loadW_at storeW_at fit_all fit_le one_int one_bool one_pointer one_slice allOne_list putRow_new ne_size1 ne_size2 ne_size3 ne_size4 wideEv wideBe wideSp wideNw wideLine evc_size evc_one evc_ne evc_lit evc_z fold_evc bec_size bec_one bec_lit bec_ne bec_at bec_in spC_size spC_one nwC_size nwC_one nwC_ne nwC_set0 nwC_set1 nwC_lit bec_set0 bec_set1 bec_set2 bec_set3 spC_set0 spC_set1 spC_lit fold_spC spC_ne fold_nwC fold_bec fold_at vs_size vs_one ic_size ic_get
attribute [local simp ↓] heap_drew heap_drewN heap_alloc heap_past heap_setCell heap_putRow heap_setB
attribute [local simp] rowCell_some rowFrozen_some rowHas_some rowIn_some rowPart_full rowPart_lit rowPut_full rowPut_lit rowSet_some size_putRow size_setB fit_all putRow_new ne_size1 ne_size2 ne_size3 ne_size4 evc_size bec_size spC_size nwC_size vs_size fit_le
attribute [local go_sem ↓] loadCf storeCf
attribute [local go_sem] wideCf
attribute [local go_sem ↓] build_bldS
attribute [local go_sem] run_bldS
/-- A bus of an image. -/
def bs1 (n m v : Nat) (X : List Int) : Bs := ⟨v, X, X, List.replicate n 0, List.replicate m bcZ⟩
/-- The lines of a new bus: those of the image that do not forget. -/
def imgX (n v : Nat) (img : List Int) : List Int := forget (splice (List.replicate (n * 8) 0) 0 img) v
theorem spl_len {n : Nat} {img : List Int} (h : img.length ≤ n * 8) : (splice (List.replicate (n * 8) 0) 0 img).length = n * 8 := by
  unfold splice; simp; omega
theorem imgX_len {n v : Nat} {img : List Int} (h : img.length ≤ n * 8) (hv : v ≤ n) : (imgX n v img).length = n * 8 := by
  unfold imgX
  rw [forget_length _ _ (by rw [spl_len h]; omega), spl_len h]
theorem copy_img (w : World) (b n c k ck : Nat) (A : Option Addr) (img : List Int) (hs : Sl w 8 A k (img.map (Value.int .u64))) (hk : k ≤ n) (C : List Int) (hC : C.length = n * 8) (hb : w.heap[b]? = some (.cells (bk C []) 44 (0, 0))) (ty : TypeId) : copR Try.prog 24 24 ty #[.slice (some ⟨b, 0, none⟩) n c, .slice A k ck] w = .ok (.int .i64 k) (putRow w b 0 (vs img)) := by
  obtain ⟨i0, hi0, hz0, hz1, hz2⟩ := info_parts line_info
  have hl : img.length = k * 8 := by simpa using hs.1
  have := run_copy_sl (P := Try.prog) (t := 24) (t' := 24) (ty := ty) Try.underlying24 hi0 w b 0 A k ck n c (img.map (Value.int .u64)) (by rw [hz1]; exact hs) hk (bk_one img) (by rw [hb, rowHas_some, bk_size]; simp [Fit]; omega)
  exact this
theorem put_img {w : World} {b n : Nat} {C img : List Int} (hl : img.length ≤ C.length) (hb : w.heap[b]? = some (.cells (bk C []) 44 (0, 0))) : (putRow w b 0 (vs img)).heap[b]? = some (.cells (bk (splice C 0 img) []) 44 (0, 0)) := by
  rw [heap_putRow _ _ _ _ _ (by rw [vs_size, hb, rowHas_some, bk_size]; simp [Fit]; omega), if_pos rfl, hb]
  have := rowPut_bk (xs := C) (l := img) (i := 0) (by unfold Fit; omega) [] 44 (0, 0)
  rw [Nat.zero_mul] at this
  rw [this]
  simp [lnPut]
theorem newB1 {n m v : Nat} {X : List Int} {W w2 w5 w6 w7 w8 : World} {q bp bc bm kb bl cl : Nat} {L : List (Nat × Nat)} {r : List Value} (NP : NewP n m v w2 w5 q bp bc bm L) (hL : L.length = m) (hW : Chg [] W w2) (hkb : w5.heap.size = kb) (d6 : Chg [q] w5 w6) (d7 : Chg [kb] w6 w7) (c8 : Chg [] w7 w8)
    (hk7 : w7.heap[kb]? = some (.cells (bk X []) 44 (0, 0))) (hl8 : w8.heap[bl]? = some (.cells (X.map (Value.int .u64) ++ r).toArray 44 (0, 0))) (hge : w7.heap.size ≤ bl)
    (hq8 : w8.heap[q]? = some (.cells #[.int .i64 v, .slice none 0 0, .slice (some ⟨kb, 0, none⟩) n n, .slice (some ⟨bp, 0, none⟩) n n, .slice (some ⟨bc, 0, none⟩) m m, .map (some bm)] 89 (0, 0))) :
    BusM n m (w8.setCell ⟨q, 1, none⟩ (.slice (some ⟨bl, 0, none⟩) n cl)) q ([q, bl, kb, bp, bc, bm] ++ pairs L) (bs1 n m v X) ∧ (∀ z ∈ [q, bl, kb, bp, bc, bm] ++ pairs L, W.heap.size ≤ z) ∧ Chg [] W (w8.setCell ⟨q, 1, none⟩ (.slice (some ⟨bl, 0, none⟩) n cl)) := by
  have d9 : Chg [q] w8 (w8.setCell ⟨q, 1, none⟩ (.slice (some ⟨bl, 0, none⟩) n cl)) := (Chg.refl [q] w8).setCell _ _ _ (.inl (by simp))
  have hq9 : (w8.setCell ⟨q, 1, none⟩ (.slice (some ⟨bl, 0, none⟩) n cl)).heap[q]? = some (.cells (busc v bl cl n kb bp bc m bm) 89 (0, 0)) := by
    rw [heap_setCell, if_pos rfl, hq8, rowSet_some]; rfl
  generalize w8.setCell ⟨q, 1, none⟩ (.slice (some ⟨bl, 0, none⟩) n cl) = w9 at *
  have hnd := NP.nd
  have hnew := NP.new
  have hs2 := hW.size
  rw [List.nodup_append] at hnd
  obtain ⟨e1, e2, e3⟩ := hnd
  simp only [List.nodup_cons, List.mem_cons, List.not_mem_nil, or_false, not_or, List.nodup_nil, not_false_eq_true, and_true] at e1
  obtain ⟨⟨f1, f2, f3⟩, ⟨f4, f5⟩, f6⟩ := e1
  have o1 := lt_heap NP.hq
  have o2 := lt_heap NP.hp
  have o3 := lt_heap NP.hb
  have o4 : bm < w5.heap.size := by obtain ⟨o, ho, _⟩ := NP.hm; exact lt_heap ho
  have o5 : ∀ z ∈ pairs L, z < w5.heap.size ∧ w2.heap.size ≤ z := fun z hz => ⟨lt_heap (NP.maps z hz), hnew z (by simp [hz])⟩
  have o6 := d6.size
  have o8 := lt_heap hk7
  have o7 := d7.size
  have n1 := hnew q (by simp)
  have n2 := hnew bp (by simp)
  have n3 := hnew bc (by simp)
  have n4 := hnew bm (by simp)
  have hs5 := NP.chg.size
  have D : Chg [q, kb] w5 w9 := ((d6.mono (by simp)).trans (d7.mono (by simp))).trans ((c8.mono (by simp)).trans (d9.mono (by simp)))
  have hkp : ∀ z, z < w5.heap.size → z ≠ q → z ∉ [q, kb] := fun z h1 h2 => by simp; omega
  refine ⟨⟨bl, cl, kb, bp, bc, bm, L.map cxZ, L.map (fun p => [p.1, p.2]), List.Perm.refl _, ?_, hq9, ⟨r, ?_⟩, ?_, D.keep NP.hp (hkp _ o2 (Ne.symm f1)), ?_, NP.hm.keep D (hkp _ o4 (Ne.symm f3)), by simp [hL], by simp [bs1], by simp [hL], ?_⟩, fun z hz => ?_, ?_⟩
  · rw [List.nodup_append]
    refine ⟨?_, e2, fun x hx y hy => ?_⟩
    · simp only [List.nodup_cons, List.mem_cons, List.not_mem_nil, or_false, not_or, List.nodup_nil, not_false_eq_true, and_true]
      refine ⟨⟨by omega, by omega, f1, f2, f3⟩, ⟨by omega, by omega, by omega, by omega⟩, ⟨by omega, by omega, by omega⟩, ⟨f4, f5⟩, f6⟩
    · have h5 := o5 y hy
      have h3 : ∀ x ∈ [q, bp, bc, bm], x ≠ y := fun x hx => e3 x hx y hy
      simp only [List.mem_cons, List.not_mem_nil, or_false, forall_eq_or_imp, forall_eq] at h3
      simp only [List.mem_cons, List.not_mem_nil, or_false] at hx
      rcases hx with rfl | rfl | rfl | rfl | rfl | rfl <;> omega
  · exact d9.keep hl8 (by simp; omega)
  · exact d9.keep (c8.keep hk7 (by simp)) (by simp; omega)
  · have := D.keep NP.hb (hkp _ o3 (Ne.symm f2))
    rw [czs_all hL] at this
    exact this
  · intro i x g c h1 h2 h3
    obtain ⟨u, hu, rfl⟩ : ∃ u, L[i]? = some u ∧ cxZ u = x := by simpa [List.getElem?_map, Option.map_eq_some_iff] using h1
    have h2' : [u.1, u.2] = g := by rw [List.getElem?_map, hu] at h2; simpa using h2
    have h3' : bcZ = c := by
      simp only [bs1] at h3
      rw [List.getElem?_replicate] at h3
      split at h3
      · simpa using h3
      · cases h3
    subst h2' h3'
    have hm : ∀ z ∈ [u.1, u.2], w9.heap[z]? = some (.map #[] 0) := fun z hz => by
      have hz' : z ∈ pairs L := List.mem_flatten.2 ⟨_, List.mem_map.2 ⟨u, List.mem_of_getElem? hu, rfl⟩, hz⟩
      exact D.keep (NP.maps z hz') (hkp z (o5 z hz').1 (fun e => e3 q (by simp) z hz' e.symm))
    exact bcZ_com (hm u.1 (by simp)) (hm u.2 (by simp))
  · rcases List.mem_append.1 hz with hz | hz
    · simp only [List.mem_cons, List.not_mem_nil, or_false] at hz
      rcases hz with rfl | rfl | rfl | rfl | rfl | rfl <;> omega
    · have := o5 z hz; omega
  · exact (hW.trans NP.chg).trans' D (fun z hz => by simp only [List.mem_cons, List.not_mem_nil, or_false] at hz; rcases hz with rfl | rfl <;> exact .inr (by omega))
theorem bnew_im0 (A : Option Addr) (ck : Nat) (img : List Int) (m n v : Nat) (c3 c4 c5 c6 : Int) (hg : goodB m n v c3 c4 c5 c6 = true) (W : World) (hA : Sl W 8 A 0 (img.map (Value.int .u64))) : Calls Try.prog 22 #[.agg #[.int .i64 m, .int .i64 n, .int .i64 v, .int .i64 c3, .int .i64 c4, .int .i64 c5, .int .i64 c6], .slice A 0 ck] W fun e w' => ∃ q F, e = .returned (.tuple #[.pointer (some ⟨q, 0, none⟩), .int .i64 0]) ∧ BusM n m w' q F (bs1 n m v (imgX n v img)) ∧ (∀ z ∈ F, W.heap.size ≤ z) ∧ Chg [] W w' := by
  have hgd := fun w => good_any m n v c3 c4 c5 c6 w
  rw [hg] at hgd
  have hg' := of_decide_eq_true hg
  obtain ⟨a1, a2, a3, a4, a5, a6, _⟩ := hg'
  have hm8 : m ≤ 8 := by omega
  have hn64 : n ≤ 64 := by omega
  have hmp := fun w => run_make_ints w n hn64
  have hml := fun w => run_make_lines w n hn64
  clear hg
  have hil : img.length = 0 * 8 := by simpa using hA.1
  have HIL := Lib.hid hil
  have HA := Lib.hid hA
  clear hil hA
  go_enter Try.func22, Try.ntmps22
  obtain ⟨n1, n2⟩ := one_new W (.cells #[.int .i64 m, .int .i64 n, .int .i64 v, .int .i64 c3, .int .i64 c4, .int .i64 c5, .int .i64 c6] 23)
  have N2 := Lib.hid n2
  clear n2
  go_upto_region 1 with fail
  generalize W.alloc (.cells #[.int .i64 m, .int .i64 n, .int .i64 v, .int .i64 c3, .int .i64 c4, .int .i64 c5, .int .i64 c6] 23) = w1 at *
  generalize W.heap.size = p at *
  go_upto_region 3 with (go_at_call 32; refine (hgd _).mono ?_; rintro e w' ⟨rfl, hw'⟩; have cw : Chg [] w1 w' := by { rw [hw']; exact (Chg.refl [] w1).alloc _ }; clear hw'; have n3 := cw.keep n1 (by simp); have CW := Lib.hid cw; clear cw)
  have N3 := Lib.hid (N2.out.trans CW.out)
  have hv1 : 0 < v := by omega
  have hvn : v < n := by omega
  clear N2 CW n1 hgd a1 a2 a3 a4 a5 a6
  generalize w' = w2 at *
  clear hml
  go_region_held3 (fun w' => w'.heap[p]? = some (Obj.cells #[.int .i64 m, .int .i64 n, .int .i64 v, .int .i64 c3, .int .i64 c4, .int .i64 c5, .int .i64 c6] 23 (0, 0))) (first | exact n3 | exact n4 | exact n5 | (rw [heap_drew, n3]) | (rw [heap_drew, n4]) | (rw [heap_drew, heap_alloc, n3]; rfl) | (rw [heap_alloc, n3]; rfl) | (rw [heap_drew, heap_alloc, n4]; rfl) | (rw [heap_alloc, n4]; rfl) | (rw [heap_drew, heap_alloc, n5]; rfl) | (rw [heap_alloc, n5]; rfl) | (rw [heap_alloc, heap_alloc, n5]; rfl) | (rw [heap_alloc, heap_drew, heap_alloc, n5]; rfl) | (rw [heap_alloc, heap_drew, n5]; rfl) | (rw [heap_alloc, heap_alloc, n4]; rfl) | (rw [heap_alloc, heap_drew, heap_alloc, n4]; rfl))
    (first | (go_at_call 33; refine (newcores_any m hm8 _).mono ?_; rintro e u1 ⟨bc, L, rfl, hL, hC⟩; have n4 : u1.heap[p]? = some (Obj.cells #[.int .i64 m, .int .i64 n, .int .i64 v, .int .i64 c3, .int .i64 c4, .int .i64 c5, .int .i64 c6] 23 (0, 0)) := hC.chg.keep (by first | with_reducible exact n3 | (rw [heap_drew, n3]) | (rw [heap_drew, heap_alloc, n3]; rfl) | (rw [heap_alloc, n3]; rfl)) (by simp); have HC := Lib.hid hC; have HL := Lib.hid hL; clear hC hL) | (go_at_call 34; refine (kinds_any _).mono ?_; rintro e u2 ⟨bm, rfl, hK, hk0, hk1⟩; have n5 : u2.heap[p]? = some (Obj.cells #[.int .i64 m, .int .i64 n, .int .i64 v, .int .i64 c3, .int .i64 c4, .int .i64 c5, .int .i64 c6] 23 (0, 0)) := hk1.keep (by first | with_reducible exact n4 | (rw [heap_drew, n4]) | (rw [heap_drew, heap_alloc, n4]; rfl) | (rw [heap_alloc, n4]; rfl)) (by simp); have HK := Lib.hid hK; have HK0 := Lib.hid hk0; have HK1 := Lib.hid hk1; clear hK hk0 hk1))
  · have NP := Lib.hid (newP1 (v := v) HC.out HK.out HK0.out HK1.out)
    have n6 := ((Chg.refl [] u2).alloc (.cells #[.int .i64 v, .slice none 0 0, .slice none 0 0, .slice (some ⟨w2.heap.size, 0, none⟩) n n, .slice (some ⟨bc, 0, none⟩) m m, .map (some bm)] 89)).keep n5 (by simp)
    clear HC HK HK0 HK1 n4 n5
    generalize u2.alloc (.cells #[.int .i64 v, .slice none 0 0, .slice none 0 0, .slice (some ⟨w2.heap.size, 0, none⟩) n n, .slice (some ⟨bc, 0, none⟩) m m, .map (some bm)] 89) = w5 at *
    generalize u2.heap.size = q at *
    generalize w2.heap.size = bp at *
    have hpq : p ≠ q := by have := lt_heap n3; have := NP.out.new q (by simp); omega
    have hq := NP.out.hq
    have oq := old hq
    have op := old n6
    have hml := fun w => run_make_lines w n hn64
    go_upto_region 5 with fail
    have hk6 : ((w5.alloc (Obj.cells (bk (List.replicate (n * 8) 0) []) 44)).setCell { block := q, off := 2 } (Value.slice (some { block := w5.heap.size, off := 0 }) n n)).heap[w5.heap.size]? = some (.cells (bk (List.replicate (n * 8) 0) []) 44 (0, 0)) := by
      rw [heap_setCell, if_neg (by have := oq.lt; omega)]; exact (MapKept.heap_alloc w5 _).1
    have hq6 : ((w5.alloc (Obj.cells (bk (List.replicate (n * 8) 0) []) 44)).setCell { block := q, off := 2 } (Value.slice (some { block := w5.heap.size, off := 0 }) n n)).heap[q]? = some (.cells #[.int .i64 v, .slice none 0 0, .slice (some ⟨w5.heap.size, 0, none⟩) n n, .slice (some ⟨bp, 0, none⟩) n n, .slice (some ⟨bc, 0, none⟩) m m, .map (some bm)] 89 (0, 0)) := by
      rw [heap_setCell, if_pos rfl, ((Chg.refl [] w5).alloc _).keep hq (by simp), rowSet_some]; rfl
    have d6 : Chg [q] w5 ((w5.alloc (Obj.cells (bk (List.replicate (n * 8) 0) []) 44)).setCell { block := q, off := 2 } (Value.slice (some { block := w5.heap.size, off := 0 }) n n)) := ((Chg.refl [q] w5).alloc _).setCell _ _ _ (.inl (by simp))
    generalize (w5.alloc (Obj.cells (bk (List.replicate (n * 8) 0) []) 44)).setCell { block := q, off := 2 } (Value.slice (some { block := w5.heap.size, off := 0 }) n n) = w6 at *
    have n7 := d6.keep n6 (by simpa using hpq)
    have hkl := Lib.hid (show ∀ z, Old w5 z → z ≠ w5.heap.size from fun z hz e => by have := hz.lt; omega)
    have hkge := Lib.hid (Nat.le_refl w5.heap.size)
    generalize hkb : w5.heap.size = kb at *
    have hpk : p ≠ kb := hkl.out p op
    have hqk : q ≠ kb := hkl.out q oq
    have D6 := Lib.hid d6
    have HKB := Lib.hid hkb
    have c6 : Chg [] W w6 := (N3.out.trans NP.out.chg).trans' D6.out (fun z hz => .inr (by simp only [List.mem_singleton] at hz; subst hz; exact Nat.le_trans N3.out.size (NP.out.new z (by simp))))
    have hcp := fun ty => copy_img w6 kb n n 0 ck A img (HA.out.chg c6 (by simp)) (by omega) (List.replicate (n * 8) 0) (by simp) hk6 ty
    have C6 := Lib.hid c6
    clear c6
    clear hq n6 d6 hml hkb oq op
    go_upto_region 6 with fail
    have hkc := put_img (n := n) (img := img) (by rw [HIL.out, List.length_replicate]; omega) hk6
    have dc : Chg [kb] w6 (putRow w6 kb 0 (vs img)) := (Chg.refl [kb] w6).putRow _ _ _ (.inl (by simp))
    have hqc := dc.keep hq6 (by simpa using hqk)
    have hpc := dc.keep n7 (by simpa using hpk)
    have DC := Lib.hid dc
    clear hcp hk6 hq6 n7 dc
    generalize putRow w6 kb 0 (vs img) = w6b at *
    have hst := slR_to kb n n v (by omega) (Nat.le_refl _)
    have hfit : rowHas (w6b.drew.heap[kb]?) 0 (v * 8) = true := by rw [heap_drew, hkc, rowHas_some, bk_size, spl_len (by rw [HIL.out]; omega)]; simp [Fit]; omega
    have hcl := fun ty => clear_lines w6b.drew kb v n ty hv1 hfit
    have hk7 : (putRow w6b.drew kb 0 (vs (List.replicate (v * 8) 0))).heap[kb]? = some (.cells (bk (imgX n v img) []) 44 (0, 0)) := by
      rw [heap_putRow _ _ _ _ _ (by rw [vs_size, List.length_replicate]; exact hfit), if_pos rfl, heap_drew, hkc, rowPut_forget _ _ (by rw [spl_len (by rw [HIL.out]; omega)]; omega)]; rfl
    have d7 : Chg [kb] w6b (putRow w6b.drew kb 0 (vs (List.replicate (v * 8) 0))) := ((Chg.refl [kb] w6b).drew).putRow _ _ _ (.inl (by simp))
    have hv0 : (v : Int) ≤ (n : Int) := by omega
    go_region
    generalize putRow w6b.drew kb 0 (vs (List.replicate (v * 8) 0)) = w7 at *
    have hq7 := d7.keep hqc (by simpa using hqk)
    have D7 := Lib.hid d7
    have hsl := Sl.of_bk (n := n) hk7 (imgX_len (by rw [HIL.out]; omega) (by omega))
    have oq7 := old hq7
    clear hcl hfit hqc hkc hst hpc d7
    go_wp2_with (go_at_call 31; refine (clone_ok _ n n _ w7 hsl (by omega) (by omega)).mono ?_; rintro e w8 ⟨bl, cl, r, rfl, hl8, hge8, hcap, c8⟩; have hq8 := c8.keep hq7 (by simp); have HL8 := Lib.hid hl8; have HGE := Lib.hid hge8; have C8 := Lib.hid c8; clear hl8 hge8 c8)
    go_ret2
    exact ⟨q, _, rfl, newB1 NP.out HL.out N3.out HKB.out D6.out (DC.out.trans D7.out) C8.out hk7 HL8.out HGE.out hq8⟩
  · have NP := Lib.hid (newP2 (v := v) HC.out HK.out HK0.out HK1.out)
    have n6 := ((Chg.refl [] u2).alloc (.cells #[.int .i64 v, .slice none 0 0, .slice none 0 0, .slice (some ⟨u1.heap.size, 0, none⟩) n n, .slice (some ⟨bc, 0, none⟩) m m, .map (some bm)] 89)).keep n5 (by simp)
    clear HC HK HK0 HK1 n4 n5
    generalize u2.alloc (.cells #[.int .i64 v, .slice none 0 0, .slice none 0 0, .slice (some ⟨u1.heap.size, 0, none⟩) n n, .slice (some ⟨bc, 0, none⟩) m m, .map (some bm)] 89) = w5 at *
    generalize u2.heap.size = q at *
    generalize u1.heap.size = bp at *
    have hpq : p ≠ q := by have := lt_heap n3; have := NP.out.new q (by simp); omega
    have hq := NP.out.hq
    have oq := old hq
    have op := old n6
    have hml := fun w => run_make_lines w n hn64
    go_upto_region 5 with fail
    have hk6 : ((w5.alloc (Obj.cells (bk (List.replicate (n * 8) 0) []) 44)).setCell { block := q, off := 2 } (Value.slice (some { block := w5.heap.size, off := 0 }) n n)).heap[w5.heap.size]? = some (.cells (bk (List.replicate (n * 8) 0) []) 44 (0, 0)) := by
      rw [heap_setCell, if_neg (by have := oq.lt; omega)]; exact (MapKept.heap_alloc w5 _).1
    have hq6 : ((w5.alloc (Obj.cells (bk (List.replicate (n * 8) 0) []) 44)).setCell { block := q, off := 2 } (Value.slice (some { block := w5.heap.size, off := 0 }) n n)).heap[q]? = some (.cells #[.int .i64 v, .slice none 0 0, .slice (some ⟨w5.heap.size, 0, none⟩) n n, .slice (some ⟨bp, 0, none⟩) n n, .slice (some ⟨bc, 0, none⟩) m m, .map (some bm)] 89 (0, 0)) := by
      rw [heap_setCell, if_pos rfl, ((Chg.refl [] w5).alloc _).keep hq (by simp), rowSet_some]; rfl
    have d6 : Chg [q] w5 ((w5.alloc (Obj.cells (bk (List.replicate (n * 8) 0) []) 44)).setCell { block := q, off := 2 } (Value.slice (some { block := w5.heap.size, off := 0 }) n n)) := ((Chg.refl [q] w5).alloc _).setCell _ _ _ (.inl (by simp))
    generalize (w5.alloc (Obj.cells (bk (List.replicate (n * 8) 0) []) 44)).setCell { block := q, off := 2 } (Value.slice (some { block := w5.heap.size, off := 0 }) n n) = w6 at *
    have n7 := d6.keep n6 (by simpa using hpq)
    have hkl := Lib.hid (show ∀ z, Old w5 z → z ≠ w5.heap.size from fun z hz e => by have := hz.lt; omega)
    have hkge := Lib.hid (Nat.le_refl w5.heap.size)
    generalize hkb : w5.heap.size = kb at *
    have hpk : p ≠ kb := hkl.out p op
    have hqk : q ≠ kb := hkl.out q oq
    have D6 := Lib.hid d6
    have HKB := Lib.hid hkb
    have c6 : Chg [] W w6 := (N3.out.trans NP.out.chg).trans' D6.out (fun z hz => .inr (by simp only [List.mem_singleton] at hz; subst hz; exact Nat.le_trans N3.out.size (NP.out.new z (by simp))))
    have hcp := fun ty => copy_img w6 kb n n 0 ck A img (HA.out.chg c6 (by simp)) (by omega) (List.replicate (n * 8) 0) (by simp) hk6 ty
    have C6 := Lib.hid c6
    clear c6
    clear hq n6 d6 hml hkb oq op
    go_upto_region 6 with fail
    have hkc := put_img (n := n) (img := img) (by rw [HIL.out, List.length_replicate]; omega) hk6
    have dc : Chg [kb] w6 (putRow w6 kb 0 (vs img)) := (Chg.refl [kb] w6).putRow _ _ _ (.inl (by simp))
    have hqc := dc.keep hq6 (by simpa using hqk)
    have hpc := dc.keep n7 (by simpa using hpk)
    have DC := Lib.hid dc
    clear hcp hk6 hq6 n7 dc
    generalize putRow w6 kb 0 (vs img) = w6b at *
    have hst := slR_to kb n n v (by omega) (Nat.le_refl _)
    have hfit : rowHas (w6b.drew.heap[kb]?) 0 (v * 8) = true := by rw [heap_drew, hkc, rowHas_some, bk_size, spl_len (by rw [HIL.out]; omega)]; simp [Fit]; omega
    have hcl := fun ty => clear_lines w6b.drew kb v n ty hv1 hfit
    have hk7 : (putRow w6b.drew kb 0 (vs (List.replicate (v * 8) 0))).heap[kb]? = some (.cells (bk (imgX n v img) []) 44 (0, 0)) := by
      rw [heap_putRow _ _ _ _ _ (by rw [vs_size, List.length_replicate]; exact hfit), if_pos rfl, heap_drew, hkc, rowPut_forget _ _ (by rw [spl_len (by rw [HIL.out]; omega)]; omega)]; rfl
    have d7 : Chg [kb] w6b (putRow w6b.drew kb 0 (vs (List.replicate (v * 8) 0))) := ((Chg.refl [kb] w6b).drew).putRow _ _ _ (.inl (by simp))
    have hv0 : (v : Int) ≤ (n : Int) := by omega
    go_region
    generalize putRow w6b.drew kb 0 (vs (List.replicate (v * 8) 0)) = w7 at *
    have hq7 := d7.keep hqc (by simpa using hqk)
    have D7 := Lib.hid d7
    have hsl := Sl.of_bk (n := n) hk7 (imgX_len (by rw [HIL.out]; omega) (by omega))
    have oq7 := old hq7
    clear hcl hfit hqc hkc hst hpc d7
    go_wp2_with (go_at_call 31; refine (clone_ok _ n n _ w7 hsl (by omega) (by omega)).mono ?_; rintro e w8 ⟨bl, cl, r, rfl, hl8, hge8, hcap, c8⟩; have hq8 := c8.keep hq7 (by simp); have HL8 := Lib.hid hl8; have HGE := Lib.hid hge8; have C8 := Lib.hid c8; clear hl8 hge8 c8)
    go_ret2
    exact ⟨q, _, rfl, newB1 NP.out HL.out N3.out HKB.out D6.out (DC.out.trans D7.out) C8.out hk7 HL8.out HGE.out hq8⟩
  · have NP := Lib.hid (newP3 (n := n) (v := v) HC.out HK.out HK0.out HK1.out)
    have n6 := (((Chg.refl [] u2).alloc (.cells (ic (List.replicate n 0)) 3)).alloc (.cells #[.int .i64 v, .slice none 0 0, .slice none 0 0, .slice (some ⟨u2.heap.size, 0, none⟩) n n, .slice (some ⟨bc, 0, none⟩) m m, .map (some bm)] 89)).keep n5 (by simp)
    clear HC HK HK0 HK1 n4 n5
    generalize (u2.alloc (.cells (ic (List.replicate n 0)) 3)).alloc (.cells #[.int .i64 v, .slice none 0 0, .slice none 0 0, .slice (some ⟨u2.heap.size, 0, none⟩) n n, .slice (some ⟨bc, 0, none⟩) m m, .map (some bm)] 89) = w5 at *
    generalize u2.heap.size + 1 = q at *
    generalize u2.heap.size = bp at *
    have hpq : p ≠ q := by have := lt_heap n3; have := NP.out.new q (by simp); omega
    have hq := NP.out.hq
    have oq := old hq
    have op := old n6
    have hml := fun w => run_make_lines w n hn64
    go_upto_region 5 with fail
    have hk6 : ((w5.alloc (Obj.cells (bk (List.replicate (n * 8) 0) []) 44)).setCell { block := q, off := 2 } (Value.slice (some { block := w5.heap.size, off := 0 }) n n)).heap[w5.heap.size]? = some (.cells (bk (List.replicate (n * 8) 0) []) 44 (0, 0)) := by
      rw [heap_setCell, if_neg (by have := oq.lt; omega)]; exact (MapKept.heap_alloc w5 _).1
    have hq6 : ((w5.alloc (Obj.cells (bk (List.replicate (n * 8) 0) []) 44)).setCell { block := q, off := 2 } (Value.slice (some { block := w5.heap.size, off := 0 }) n n)).heap[q]? = some (.cells #[.int .i64 v, .slice none 0 0, .slice (some ⟨w5.heap.size, 0, none⟩) n n, .slice (some ⟨bp, 0, none⟩) n n, .slice (some ⟨bc, 0, none⟩) m m, .map (some bm)] 89 (0, 0)) := by
      rw [heap_setCell, if_pos rfl, ((Chg.refl [] w5).alloc _).keep hq (by simp), rowSet_some]; rfl
    have d6 : Chg [q] w5 ((w5.alloc (Obj.cells (bk (List.replicate (n * 8) 0) []) 44)).setCell { block := q, off := 2 } (Value.slice (some { block := w5.heap.size, off := 0 }) n n)) := ((Chg.refl [q] w5).alloc _).setCell _ _ _ (.inl (by simp))
    generalize (w5.alloc (Obj.cells (bk (List.replicate (n * 8) 0) []) 44)).setCell { block := q, off := 2 } (Value.slice (some { block := w5.heap.size, off := 0 }) n n) = w6 at *
    have n7 := d6.keep n6 (by simpa using hpq)
    have hkl := Lib.hid (show ∀ z, Old w5 z → z ≠ w5.heap.size from fun z hz e => by have := hz.lt; omega)
    have hkge := Lib.hid (Nat.le_refl w5.heap.size)
    generalize hkb : w5.heap.size = kb at *
    have hpk : p ≠ kb := hkl.out p op
    have hqk : q ≠ kb := hkl.out q oq
    have D6 := Lib.hid d6
    have HKB := Lib.hid hkb
    have c6 : Chg [] W w6 := (N3.out.trans NP.out.chg).trans' D6.out (fun z hz => .inr (by simp only [List.mem_singleton] at hz; subst hz; exact Nat.le_trans N3.out.size (NP.out.new z (by simp))))
    have hcp := fun ty => copy_img w6 kb n n 0 ck A img (HA.out.chg c6 (by simp)) (by omega) (List.replicate (n * 8) 0) (by simp) hk6 ty
    have C6 := Lib.hid c6
    clear c6
    clear hq n6 d6 hml hkb oq op
    go_upto_region 6 with fail
    have hkc := put_img (n := n) (img := img) (by rw [HIL.out, List.length_replicate]; omega) hk6
    have dc : Chg [kb] w6 (putRow w6 kb 0 (vs img)) := (Chg.refl [kb] w6).putRow _ _ _ (.inl (by simp))
    have hqc := dc.keep hq6 (by simpa using hqk)
    have hpc := dc.keep n7 (by simpa using hpk)
    have DC := Lib.hid dc
    clear hcp hk6 hq6 n7 dc
    generalize putRow w6 kb 0 (vs img) = w6b at *
    have hst := slR_to kb n n v (by omega) (Nat.le_refl _)
    have hfit : rowHas (w6b.drew.heap[kb]?) 0 (v * 8) = true := by rw [heap_drew, hkc, rowHas_some, bk_size, spl_len (by rw [HIL.out]; omega)]; simp [Fit]; omega
    have hcl := fun ty => clear_lines w6b.drew kb v n ty hv1 hfit
    have hk7 : (putRow w6b.drew kb 0 (vs (List.replicate (v * 8) 0))).heap[kb]? = some (.cells (bk (imgX n v img) []) 44 (0, 0)) := by
      rw [heap_putRow _ _ _ _ _ (by rw [vs_size, List.length_replicate]; exact hfit), if_pos rfl, heap_drew, hkc, rowPut_forget _ _ (by rw [spl_len (by rw [HIL.out]; omega)]; omega)]; rfl
    have d7 : Chg [kb] w6b (putRow w6b.drew kb 0 (vs (List.replicate (v * 8) 0))) := ((Chg.refl [kb] w6b).drew).putRow _ _ _ (.inl (by simp))
    have hv0 : (v : Int) ≤ (n : Int) := by omega
    go_region
    generalize putRow w6b.drew kb 0 (vs (List.replicate (v * 8) 0)) = w7 at *
    have hq7 := d7.keep hqc (by simpa using hqk)
    have D7 := Lib.hid d7
    have hsl := Sl.of_bk (n := n) hk7 (imgX_len (by rw [HIL.out]; omega) (by omega))
    have oq7 := old hq7
    clear hcl hfit hqc hkc hst hpc d7
    go_wp2_with (go_at_call 31; refine (clone_ok _ n n _ w7 hsl (by omega) (by omega)).mono ?_; rintro e w8 ⟨bl, cl, r, rfl, hl8, hge8, hcap, c8⟩; have hq8 := c8.keep hq7 (by simp); have HL8 := Lib.hid hl8; have HGE := Lib.hid hge8; have C8 := Lib.hid c8; clear hl8 hge8 c8)
    go_ret2
    exact ⟨q, _, rfl, newB1 NP.out HL.out N3.out HKB.out D6.out (DC.out.trans D7.out) C8.out hk7 HL8.out HGE.out hq8⟩
theorem bnew_imn (A : Option Addr) (ck : Nat) (img : List Int) (m n v : Nat) (c3 c4 c5 c6 : Int) (hg : goodB m n v c3 c4 c5 c6 = true) (W : World) (hA : Sl W 8 A n (img.map (Value.int .u64))) : Calls Try.prog 22 #[.agg #[.int .i64 m, .int .i64 n, .int .i64 v, .int .i64 c3, .int .i64 c4, .int .i64 c5, .int .i64 c6], .slice A n ck] W fun e w' => ∃ q F, e = .returned (.tuple #[.pointer (some ⟨q, 0, none⟩), .int .i64 0]) ∧ BusM n m w' q F (bs1 n m v (imgX n v img)) ∧ (∀ z ∈ F, W.heap.size ≤ z) ∧ Chg [] W w' := by
  have hgd := fun w => good_any m n v c3 c4 c5 c6 w
  rw [hg] at hgd
  have hg' := of_decide_eq_true hg
  obtain ⟨a1, a2, a3, a4, a5, a6, _⟩ := hg'
  have hm8 : m ≤ 8 := by omega
  have hn64 : n ≤ 64 := by omega
  have hmp := fun w => run_make_ints w n hn64
  have hml := fun w => run_make_lines w n hn64
  clear hg
  have hil : img.length = n * 8 := by simpa using hA.1
  have HIL := Lib.hid hil
  have HA := Lib.hid hA
  clear hil hA
  have t1 : ((n : Int) != 0) = true := by simp; omega
  have t2 : ((n : Int) != (n : Int)) = false := by simp
  go_enter Try.func22, Try.ntmps22
  obtain ⟨n1, n2⟩ := one_new W (.cells #[.int .i64 m, .int .i64 n, .int .i64 v, .int .i64 c3, .int .i64 c4, .int .i64 c5, .int .i64 c6] 23)
  have N2 := Lib.hid n2
  clear n2
  go_upto_region 1 with fail
  generalize W.alloc (.cells #[.int .i64 m, .int .i64 n, .int .i64 v, .int .i64 c3, .int .i64 c4, .int .i64 c5, .int .i64 c6] 23) = w1 at *
  generalize W.heap.size = p at *
  go_upto_region 3 with (go_at_call 32; refine (hgd _).mono ?_; rintro e w' ⟨rfl, hw'⟩; have cw : Chg [] w1 w' := by { rw [hw']; exact (Chg.refl [] w1).alloc _ }; clear hw'; have n3 := cw.keep n1 (by simp); have CW := Lib.hid cw; clear cw)
  have N3 := Lib.hid (N2.out.trans CW.out)
  have hv1 : 0 < v := by omega
  have hvn : v < n := by omega
  clear N2 CW n1 hgd a1 a2 a3 a4 a5 a6
  generalize w' = w2 at *
  clear hml
  go_region_held3 (fun w' => w'.heap[p]? = some (Obj.cells #[.int .i64 m, .int .i64 n, .int .i64 v, .int .i64 c3, .int .i64 c4, .int .i64 c5, .int .i64 c6] 23 (0, 0))) (first | exact n3 | exact n4 | exact n5 | (rw [heap_drew, n3]) | (rw [heap_drew, n4]) | (rw [heap_drew, heap_alloc, n3]; rfl) | (rw [heap_alloc, n3]; rfl) | (rw [heap_drew, heap_alloc, n4]; rfl) | (rw [heap_alloc, n4]; rfl) | (rw [heap_drew, heap_alloc, n5]; rfl) | (rw [heap_alloc, n5]; rfl) | (rw [heap_alloc, heap_alloc, n5]; rfl) | (rw [heap_alloc, heap_drew, heap_alloc, n5]; rfl) | (rw [heap_alloc, heap_drew, n5]; rfl) | (rw [heap_alloc, heap_alloc, n4]; rfl) | (rw [heap_alloc, heap_drew, heap_alloc, n4]; rfl))
    (first | (go_at_call 33; refine (newcores_any m hm8 _).mono ?_; rintro e u1 ⟨bc, L, rfl, hL, hC⟩; have n4 : u1.heap[p]? = some (Obj.cells #[.int .i64 m, .int .i64 n, .int .i64 v, .int .i64 c3, .int .i64 c4, .int .i64 c5, .int .i64 c6] 23 (0, 0)) := hC.chg.keep (by first | with_reducible exact n3 | (rw [heap_drew, n3]) | (rw [heap_drew, heap_alloc, n3]; rfl) | (rw [heap_alloc, n3]; rfl)) (by simp); have HC := Lib.hid hC; have HL := Lib.hid hL; clear hC hL) | (go_at_call 34; refine (kinds_any _).mono ?_; rintro e u2 ⟨bm, rfl, hK, hk0, hk1⟩; have n5 : u2.heap[p]? = some (Obj.cells #[.int .i64 m, .int .i64 n, .int .i64 v, .int .i64 c3, .int .i64 c4, .int .i64 c5, .int .i64 c6] 23 (0, 0)) := hk1.keep (by first | with_reducible exact n4 | (rw [heap_drew, n4]) | (rw [heap_drew, heap_alloc, n4]; rfl) | (rw [heap_alloc, n4]; rfl)) (by simp); have HK := Lib.hid hK; have HK0 := Lib.hid hk0; have HK1 := Lib.hid hk1; clear hK hk0 hk1))
  · have NP := Lib.hid (newP1 (v := v) HC.out HK.out HK0.out HK1.out)
    have n6 := ((Chg.refl [] u2).alloc (.cells #[.int .i64 v, .slice none 0 0, .slice none 0 0, .slice (some ⟨w2.heap.size, 0, none⟩) n n, .slice (some ⟨bc, 0, none⟩) m m, .map (some bm)] 89)).keep n5 (by simp)
    clear HC HK HK0 HK1 n4 n5
    generalize u2.alloc (.cells #[.int .i64 v, .slice none 0 0, .slice none 0 0, .slice (some ⟨w2.heap.size, 0, none⟩) n n, .slice (some ⟨bc, 0, none⟩) m m, .map (some bm)] 89) = w5 at *
    generalize u2.heap.size = q at *
    generalize w2.heap.size = bp at *
    have hpq : p ≠ q := by have := lt_heap n3; have := NP.out.new q (by simp); omega
    have hq := NP.out.hq
    have oq := old hq
    have op := old n6
    have hml := fun w => run_make_lines w n hn64
    go_upto_region 5 with fail
    have hk6 : ((w5.alloc (Obj.cells (bk (List.replicate (n * 8) 0) []) 44)).setCell { block := q, off := 2 } (Value.slice (some { block := w5.heap.size, off := 0 }) n n)).heap[w5.heap.size]? = some (.cells (bk (List.replicate (n * 8) 0) []) 44 (0, 0)) := by
      rw [heap_setCell, if_neg (by have := oq.lt; omega)]; exact (MapKept.heap_alloc w5 _).1
    have hq6 : ((w5.alloc (Obj.cells (bk (List.replicate (n * 8) 0) []) 44)).setCell { block := q, off := 2 } (Value.slice (some { block := w5.heap.size, off := 0 }) n n)).heap[q]? = some (.cells #[.int .i64 v, .slice none 0 0, .slice (some ⟨w5.heap.size, 0, none⟩) n n, .slice (some ⟨bp, 0, none⟩) n n, .slice (some ⟨bc, 0, none⟩) m m, .map (some bm)] 89 (0, 0)) := by
      rw [heap_setCell, if_pos rfl, ((Chg.refl [] w5).alloc _).keep hq (by simp), rowSet_some]; rfl
    have d6 : Chg [q] w5 ((w5.alloc (Obj.cells (bk (List.replicate (n * 8) 0) []) 44)).setCell { block := q, off := 2 } (Value.slice (some { block := w5.heap.size, off := 0 }) n n)) := ((Chg.refl [q] w5).alloc _).setCell _ _ _ (.inl (by simp))
    generalize (w5.alloc (Obj.cells (bk (List.replicate (n * 8) 0) []) 44)).setCell { block := q, off := 2 } (Value.slice (some { block := w5.heap.size, off := 0 }) n n) = w6 at *
    have n7 := d6.keep n6 (by simpa using hpq)
    have hkl := Lib.hid (show ∀ z, Old w5 z → z ≠ w5.heap.size from fun z hz e => by have := hz.lt; omega)
    have hkge := Lib.hid (Nat.le_refl w5.heap.size)
    generalize hkb : w5.heap.size = kb at *
    have hpk : p ≠ kb := hkl.out p op
    have hqk : q ≠ kb := hkl.out q oq
    have D6 := Lib.hid d6
    have HKB := Lib.hid hkb
    have c6 : Chg [] W w6 := (N3.out.trans NP.out.chg).trans' D6.out (fun z hz => .inr (by simp only [List.mem_singleton] at hz; subst hz; exact Nat.le_trans N3.out.size (NP.out.new z (by simp))))
    have hcp := fun ty => copy_img w6 kb n n n ck A img (HA.out.chg c6 (by simp)) (by omega) (List.replicate (n * 8) 0) (by simp) hk6 ty
    have C6 := Lib.hid c6
    clear c6
    clear hq n6 d6 hml hkb oq op
    go_upto_region 6 with fail
    have hkc := put_img (n := n) (img := img) (by rw [HIL.out, List.length_replicate]; omega) hk6
    have dc : Chg [kb] w6 (putRow w6 kb 0 (vs img)) := (Chg.refl [kb] w6).putRow _ _ _ (.inl (by simp))
    have hqc := dc.keep hq6 (by simpa using hqk)
    have hpc := dc.keep n7 (by simpa using hpk)
    have DC := Lib.hid dc
    clear hcp hk6 hq6 n7 dc
    generalize putRow w6 kb 0 (vs img) = w6b at *
    have hst := slR_to kb n n v (by omega) (Nat.le_refl _)
    have hfit : rowHas (w6b.drew.heap[kb]?) 0 (v * 8) = true := by rw [heap_drew, hkc, rowHas_some, bk_size, spl_len (by rw [HIL.out]; omega)]; simp [Fit]; omega
    have hcl := fun ty => clear_lines w6b.drew kb v n ty hv1 hfit
    have hk7 : (putRow w6b.drew kb 0 (vs (List.replicate (v * 8) 0))).heap[kb]? = some (.cells (bk (imgX n v img) []) 44 (0, 0)) := by
      rw [heap_putRow _ _ _ _ _ (by rw [vs_size, List.length_replicate]; exact hfit), if_pos rfl, heap_drew, hkc, rowPut_forget _ _ (by rw [spl_len (by rw [HIL.out]; omega)]; omega)]; rfl
    have d7 : Chg [kb] w6b (putRow w6b.drew kb 0 (vs (List.replicate (v * 8) 0))) := ((Chg.refl [kb] w6b).drew).putRow _ _ _ (.inl (by simp))
    have hv0 : (v : Int) ≤ (n : Int) := by omega
    go_region
    generalize putRow w6b.drew kb 0 (vs (List.replicate (v * 8) 0)) = w7 at *
    have hq7 := d7.keep hqc (by simpa using hqk)
    have D7 := Lib.hid d7
    have hsl := Sl.of_bk (n := n) hk7 (imgX_len (by rw [HIL.out]; omega) (by omega))
    have oq7 := old hq7
    clear hcl hfit hqc hkc hst hpc d7
    go_wp2_with (go_at_call 31; refine (clone_ok _ n n _ w7 hsl (by omega) (by omega)).mono ?_; rintro e w8 ⟨bl, cl, r, rfl, hl8, hge8, hcap, c8⟩; have hq8 := c8.keep hq7 (by simp); have HL8 := Lib.hid hl8; have HGE := Lib.hid hge8; have C8 := Lib.hid c8; clear hl8 hge8 c8)
    go_ret2
    exact ⟨q, _, rfl, newB1 NP.out HL.out N3.out HKB.out D6.out (DC.out.trans D7.out) C8.out hk7 HL8.out HGE.out hq8⟩
  · have NP := Lib.hid (newP2 (v := v) HC.out HK.out HK0.out HK1.out)
    have n6 := ((Chg.refl [] u2).alloc (.cells #[.int .i64 v, .slice none 0 0, .slice none 0 0, .slice (some ⟨u1.heap.size, 0, none⟩) n n, .slice (some ⟨bc, 0, none⟩) m m, .map (some bm)] 89)).keep n5 (by simp)
    clear HC HK HK0 HK1 n4 n5
    generalize u2.alloc (.cells #[.int .i64 v, .slice none 0 0, .slice none 0 0, .slice (some ⟨u1.heap.size, 0, none⟩) n n, .slice (some ⟨bc, 0, none⟩) m m, .map (some bm)] 89) = w5 at *
    generalize u2.heap.size = q at *
    generalize u1.heap.size = bp at *
    have hpq : p ≠ q := by have := lt_heap n3; have := NP.out.new q (by simp); omega
    have hq := NP.out.hq
    have oq := old hq
    have op := old n6
    have hml := fun w => run_make_lines w n hn64
    go_upto_region 5 with fail
    have hk6 : ((w5.alloc (Obj.cells (bk (List.replicate (n * 8) 0) []) 44)).setCell { block := q, off := 2 } (Value.slice (some { block := w5.heap.size, off := 0 }) n n)).heap[w5.heap.size]? = some (.cells (bk (List.replicate (n * 8) 0) []) 44 (0, 0)) := by
      rw [heap_setCell, if_neg (by have := oq.lt; omega)]; exact (MapKept.heap_alloc w5 _).1
    have hq6 : ((w5.alloc (Obj.cells (bk (List.replicate (n * 8) 0) []) 44)).setCell { block := q, off := 2 } (Value.slice (some { block := w5.heap.size, off := 0 }) n n)).heap[q]? = some (.cells #[.int .i64 v, .slice none 0 0, .slice (some ⟨w5.heap.size, 0, none⟩) n n, .slice (some ⟨bp, 0, none⟩) n n, .slice (some ⟨bc, 0, none⟩) m m, .map (some bm)] 89 (0, 0)) := by
      rw [heap_setCell, if_pos rfl, ((Chg.refl [] w5).alloc _).keep hq (by simp), rowSet_some]; rfl
    have d6 : Chg [q] w5 ((w5.alloc (Obj.cells (bk (List.replicate (n * 8) 0) []) 44)).setCell { block := q, off := 2 } (Value.slice (some { block := w5.heap.size, off := 0 }) n n)) := ((Chg.refl [q] w5).alloc _).setCell _ _ _ (.inl (by simp))
    generalize (w5.alloc (Obj.cells (bk (List.replicate (n * 8) 0) []) 44)).setCell { block := q, off := 2 } (Value.slice (some { block := w5.heap.size, off := 0 }) n n) = w6 at *
    have n7 := d6.keep n6 (by simpa using hpq)
    have hkl := Lib.hid (show ∀ z, Old w5 z → z ≠ w5.heap.size from fun z hz e => by have := hz.lt; omega)
    have hkge := Lib.hid (Nat.le_refl w5.heap.size)
    generalize hkb : w5.heap.size = kb at *
    have hpk : p ≠ kb := hkl.out p op
    have hqk : q ≠ kb := hkl.out q oq
    have D6 := Lib.hid d6
    have HKB := Lib.hid hkb
    have c6 : Chg [] W w6 := (N3.out.trans NP.out.chg).trans' D6.out (fun z hz => .inr (by simp only [List.mem_singleton] at hz; subst hz; exact Nat.le_trans N3.out.size (NP.out.new z (by simp))))
    have hcp := fun ty => copy_img w6 kb n n n ck A img (HA.out.chg c6 (by simp)) (by omega) (List.replicate (n * 8) 0) (by simp) hk6 ty
    have C6 := Lib.hid c6
    clear c6
    clear hq n6 d6 hml hkb oq op
    go_upto_region 6 with fail
    have hkc := put_img (n := n) (img := img) (by rw [HIL.out, List.length_replicate]; omega) hk6
    have dc : Chg [kb] w6 (putRow w6 kb 0 (vs img)) := (Chg.refl [kb] w6).putRow _ _ _ (.inl (by simp))
    have hqc := dc.keep hq6 (by simpa using hqk)
    have hpc := dc.keep n7 (by simpa using hpk)
    have DC := Lib.hid dc
    clear hcp hk6 hq6 n7 dc
    generalize putRow w6 kb 0 (vs img) = w6b at *
    have hst := slR_to kb n n v (by omega) (Nat.le_refl _)
    have hfit : rowHas (w6b.drew.heap[kb]?) 0 (v * 8) = true := by rw [heap_drew, hkc, rowHas_some, bk_size, spl_len (by rw [HIL.out]; omega)]; simp [Fit]; omega
    have hcl := fun ty => clear_lines w6b.drew kb v n ty hv1 hfit
    have hk7 : (putRow w6b.drew kb 0 (vs (List.replicate (v * 8) 0))).heap[kb]? = some (.cells (bk (imgX n v img) []) 44 (0, 0)) := by
      rw [heap_putRow _ _ _ _ _ (by rw [vs_size, List.length_replicate]; exact hfit), if_pos rfl, heap_drew, hkc, rowPut_forget _ _ (by rw [spl_len (by rw [HIL.out]; omega)]; omega)]; rfl
    have d7 : Chg [kb] w6b (putRow w6b.drew kb 0 (vs (List.replicate (v * 8) 0))) := ((Chg.refl [kb] w6b).drew).putRow _ _ _ (.inl (by simp))
    have hv0 : (v : Int) ≤ (n : Int) := by omega
    go_region
    generalize putRow w6b.drew kb 0 (vs (List.replicate (v * 8) 0)) = w7 at *
    have hq7 := d7.keep hqc (by simpa using hqk)
    have D7 := Lib.hid d7
    have hsl := Sl.of_bk (n := n) hk7 (imgX_len (by rw [HIL.out]; omega) (by omega))
    have oq7 := old hq7
    clear hcl hfit hqc hkc hst hpc d7
    go_wp2_with (go_at_call 31; refine (clone_ok _ n n _ w7 hsl (by omega) (by omega)).mono ?_; rintro e w8 ⟨bl, cl, r, rfl, hl8, hge8, hcap, c8⟩; have hq8 := c8.keep hq7 (by simp); have HL8 := Lib.hid hl8; have HGE := Lib.hid hge8; have C8 := Lib.hid c8; clear hl8 hge8 c8)
    go_ret2
    exact ⟨q, _, rfl, newB1 NP.out HL.out N3.out HKB.out D6.out (DC.out.trans D7.out) C8.out hk7 HL8.out HGE.out hq8⟩
  · have NP := Lib.hid (newP3 (n := n) (v := v) HC.out HK.out HK0.out HK1.out)
    have n6 := (((Chg.refl [] u2).alloc (.cells (ic (List.replicate n 0)) 3)).alloc (.cells #[.int .i64 v, .slice none 0 0, .slice none 0 0, .slice (some ⟨u2.heap.size, 0, none⟩) n n, .slice (some ⟨bc, 0, none⟩) m m, .map (some bm)] 89)).keep n5 (by simp)
    clear HC HK HK0 HK1 n4 n5
    generalize (u2.alloc (.cells (ic (List.replicate n 0)) 3)).alloc (.cells #[.int .i64 v, .slice none 0 0, .slice none 0 0, .slice (some ⟨u2.heap.size, 0, none⟩) n n, .slice (some ⟨bc, 0, none⟩) m m, .map (some bm)] 89) = w5 at *
    generalize u2.heap.size + 1 = q at *
    generalize u2.heap.size = bp at *
    have hpq : p ≠ q := by have := lt_heap n3; have := NP.out.new q (by simp); omega
    have hq := NP.out.hq
    have oq := old hq
    have op := old n6
    have hml := fun w => run_make_lines w n hn64
    go_upto_region 5 with fail
    have hk6 : ((w5.alloc (Obj.cells (bk (List.replicate (n * 8) 0) []) 44)).setCell { block := q, off := 2 } (Value.slice (some { block := w5.heap.size, off := 0 }) n n)).heap[w5.heap.size]? = some (.cells (bk (List.replicate (n * 8) 0) []) 44 (0, 0)) := by
      rw [heap_setCell, if_neg (by have := oq.lt; omega)]; exact (MapKept.heap_alloc w5 _).1
    have hq6 : ((w5.alloc (Obj.cells (bk (List.replicate (n * 8) 0) []) 44)).setCell { block := q, off := 2 } (Value.slice (some { block := w5.heap.size, off := 0 }) n n)).heap[q]? = some (.cells #[.int .i64 v, .slice none 0 0, .slice (some ⟨w5.heap.size, 0, none⟩) n n, .slice (some ⟨bp, 0, none⟩) n n, .slice (some ⟨bc, 0, none⟩) m m, .map (some bm)] 89 (0, 0)) := by
      rw [heap_setCell, if_pos rfl, ((Chg.refl [] w5).alloc _).keep hq (by simp), rowSet_some]; rfl
    have d6 : Chg [q] w5 ((w5.alloc (Obj.cells (bk (List.replicate (n * 8) 0) []) 44)).setCell { block := q, off := 2 } (Value.slice (some { block := w5.heap.size, off := 0 }) n n)) := ((Chg.refl [q] w5).alloc _).setCell _ _ _ (.inl (by simp))
    generalize (w5.alloc (Obj.cells (bk (List.replicate (n * 8) 0) []) 44)).setCell { block := q, off := 2 } (Value.slice (some { block := w5.heap.size, off := 0 }) n n) = w6 at *
    have n7 := d6.keep n6 (by simpa using hpq)
    have hkl := Lib.hid (show ∀ z, Old w5 z → z ≠ w5.heap.size from fun z hz e => by have := hz.lt; omega)
    have hkge := Lib.hid (Nat.le_refl w5.heap.size)
    generalize hkb : w5.heap.size = kb at *
    have hpk : p ≠ kb := hkl.out p op
    have hqk : q ≠ kb := hkl.out q oq
    have D6 := Lib.hid d6
    have HKB := Lib.hid hkb
    have c6 : Chg [] W w6 := (N3.out.trans NP.out.chg).trans' D6.out (fun z hz => .inr (by simp only [List.mem_singleton] at hz; subst hz; exact Nat.le_trans N3.out.size (NP.out.new z (by simp))))
    have hcp := fun ty => copy_img w6 kb n n n ck A img (HA.out.chg c6 (by simp)) (by omega) (List.replicate (n * 8) 0) (by simp) hk6 ty
    have C6 := Lib.hid c6
    clear c6
    clear hq n6 d6 hml hkb oq op
    go_upto_region 6 with fail
    have hkc := put_img (n := n) (img := img) (by rw [HIL.out, List.length_replicate]; omega) hk6
    have dc : Chg [kb] w6 (putRow w6 kb 0 (vs img)) := (Chg.refl [kb] w6).putRow _ _ _ (.inl (by simp))
    have hqc := dc.keep hq6 (by simpa using hqk)
    have hpc := dc.keep n7 (by simpa using hpk)
    have DC := Lib.hid dc
    clear hcp hk6 hq6 n7 dc
    generalize putRow w6 kb 0 (vs img) = w6b at *
    have hst := slR_to kb n n v (by omega) (Nat.le_refl _)
    have hfit : rowHas (w6b.drew.heap[kb]?) 0 (v * 8) = true := by rw [heap_drew, hkc, rowHas_some, bk_size, spl_len (by rw [HIL.out]; omega)]; simp [Fit]; omega
    have hcl := fun ty => clear_lines w6b.drew kb v n ty hv1 hfit
    have hk7 : (putRow w6b.drew kb 0 (vs (List.replicate (v * 8) 0))).heap[kb]? = some (.cells (bk (imgX n v img) []) 44 (0, 0)) := by
      rw [heap_putRow _ _ _ _ _ (by rw [vs_size, List.length_replicate]; exact hfit), if_pos rfl, heap_drew, hkc, rowPut_forget _ _ (by rw [spl_len (by rw [HIL.out]; omega)]; omega)]; rfl
    have d7 : Chg [kb] w6b (putRow w6b.drew kb 0 (vs (List.replicate (v * 8) 0))) := ((Chg.refl [kb] w6b).drew).putRow _ _ _ (.inl (by simp))
    have hv0 : (v : Int) ≤ (n : Int) := by omega
    go_region
    generalize putRow w6b.drew kb 0 (vs (List.replicate (v * 8) 0)) = w7 at *
    have hq7 := d7.keep hqc (by simpa using hqk)
    have D7 := Lib.hid d7
    have hsl := Sl.of_bk (n := n) hk7 (imgX_len (by rw [HIL.out]; omega) (by omega))
    have oq7 := old hq7
    clear hcl hfit hqc hkc hst hpc d7
    go_wp2_with (go_at_call 31; refine (clone_ok _ n n _ w7 hsl (by omega) (by omega)).mono ?_; rintro e w8 ⟨bl, cl, r, rfl, hl8, hge8, hcap, c8⟩; have hq8 := c8.keep hq7 (by simp); have HL8 := Lib.hid hl8; have HGE := Lib.hid hge8; have C8 := Lib.hid c8; clear hl8 hge8 c8)
    go_ret2
    exact ⟨q, _, rfl, newB1 NP.out HL.out N3.out HKB.out D6.out (DC.out.trans D7.out) C8.out hk7 HL8.out HGE.out hq8⟩

/-- No bus. -/
theorem bnew_bad (A : Option Addr) (k ck : Nat) (c0 c1 c2 c3 c4 c5 c6 : Int) (hg : goodB c0 c1 c2 c3 c4 c5 c6 = false ∨ (goodB c0 c1 c2 c3 c4 c5 c6 = true ∧ k ≠ 0 ∧ (k : Int) ≠ c1)) (W : World) : Calls Try.prog 22 #[.agg #[.int .i64 c0, .int .i64 c1, .int .i64 c2, .int .i64 c3, .int .i64 c4, .int .i64 c5, .int .i64 c6], .slice A k ck] W fun e w' => e = .returned (.tuple #[.pointer none, .int .i64 1]) ∧ Chg [] W w' := by
  have hgd := fun w => good_any c0 c1 c2 c3 c4 c5 c6 w
  obtain ⟨n1, n2⟩ := one_new W (.cells #[.int .i64 c0, .int .i64 c1, .int .i64 c2, .int .i64 c3, .int .i64 c4, .int .i64 c5, .int .i64 c6] 23)
  have N2 := Lib.hid n2
  clear n2
  rcases hg with hg | ⟨hg, h0, h1⟩
  · rw [hg] at hgd
    clear hg
    go_enter Try.func22, Try.ntmps22
    go_upto_region 1 with fail
    generalize W.alloc (.cells #[.int .i64 c0, .int .i64 c1, .int .i64 c2, .int .i64 c3, .int .i64 c4, .int .i64 c5, .int .i64 c6] 23) = w1 at *
    generalize W.heap.size = p at *
    go_wp2_with (go_at_call 32; refine (hgd _).mono ?_; rintro e w' ⟨rfl, hw'⟩; have cw : Chg [] w1 w' := by { rw [hw']; exact (Chg.refl [] w1).alloc _ }; clear hw'; have CW := Lib.hid cw; clear cw)
    go_ret2
    exact ⟨rfl, N2.out.trans CW.out⟩
  · rw [hg] at hgd
    clear hg
    have t1 : ((k : Int) != 0) = true := by simp; omega
    have t2 : ((k : Int) != c1) = true := by simpa using h1
    clear h0 h1
    go_enter Try.func22, Try.ntmps22
    go_upto_region 1 with fail
    generalize W.alloc (.cells #[.int .i64 c0, .int .i64 c1, .int .i64 c2, .int .i64 c3, .int .i64 c4, .int .i64 c5, .int .i64 c6] 23) = w1 at *
    generalize W.heap.size = p at *
    go_wp2_with (go_at_call 32; refine (hgd _).mono ?_; rintro e w' ⟨rfl, hw'⟩; have cw : Chg [] w1 w' := by { rw [hw']; exact (Chg.refl [] w1).alloc _ }; clear hw'; have n3 := cw.keep n1 (by simp); have CW := Lib.hid cw; clear cw)
    go_ret2
    exact ⟨rfl, N2.out.trans CW.out⟩
end Go.Proofs.Ytnocekhgabgffaa
end
