/- Texts of the walk, one behind the other: Mfh Mfi Mfj Word Wordb Mfk. No condition. -/
import Derived.Test.YtadeoflkppiflaaGreatDoorOaa
import Derived.Test.YtadeoflkppiflaaGreatDoorOal
import Derived.BigQuiet
import Derived.Deep.Cut
import Derived.Deep.CutBlock
import Derived.Deep.CutRange
import Derived.Deep.DeepCutAuto
import Derived.Deep.QuietTactic
import Derived.Deep.RegionHeld3
import Derived.Deep.RegionWith
import Derived.Lib.Hide
import Derived.Test.YtadeoflkppiflaaGreatDoorChecked
import Derived.WalkKit
section
namespace Go.Proofs.YtadeoflkppiflaaGreatDoor
open Go.RowKit
set_option linter.unusedVariables false
set_option maxHeartbeats 1000000
set_option maxRecDepth 100000
attribute [local go_sem ↓] append_appS copy_copS clear_clrS make_mkS cell_row frozen_row loadLine storeLine loadSlot storeSlot heap_drew heap_drewN heap_alloc heap_past heap_setCell heap_putRow vs_get slc_st slc_li slc_us slice_slS loadMsg storeMsg loadHas storeHas msc_kd msc_li msc_di msc_ke
attribute [local go_sem] rowCell_some rowFrozen_some rowHas_some rowIn_some rowPart_full rowPart_lit rowPut_full rowPut_lit rowSet_some size_putRow vs_size vs_one wideLine wideSlot run_loadS run_storeS run_appS run_copS run_clrS run_mkS loadW_at storeW_at fit_all fit_le one_int one_bool one_pointer one_slice allOne_list putRow_new ne_size1 ne_size2 ne_size3 ne_size4 zero8_length lines_nil line_eq lit8 slc_size slc_one slc_part slc_in fold_slt fold_slc slc_set_us wideMsg wideHas run_slS msc_size msc_one msc_part msc_in fold_msc msc_putDi msc_putKe msc_putX msc_has ms4_lit
attribute [local simp ↓] heap_drew heap_drewN heap_alloc heap_past heap_setCell heap_putRow
attribute [local simp] rowCell_some rowFrozen_some rowHas_some rowIn_some rowPart_full rowPart_lit rowPut_full rowPut_lit rowSet_some size_putRow vs_size fit_all putRow_new ne_size1 ne_size2 ne_size3 ne_size4 zero8_length slc_size msc_size msc_putDi msc_putKe msc_putX msc_has fit_le
attribute [local go_sem ↓] ec_he ec_di ec_ow ec_sh ec_bu ec_by ec_wa sc_to
attribute [local go_sem] mi_and mi_or mi_not mi_beq0 mi_bne0 ec_size ec_one ec_part ec_in ec_has ec_setDi ec_setOw ec_setSh ec_setBu ec_setBy ec_setWa ec_setSh0 ec_setWa0 ec_putM sc_size sc_one sc_part sc_in
attribute [local simp] ec_size sc_size ec_setDi ec_setOw ec_setSh ec_setBu ec_setBy ec_setWa ec_setSh0 ec_setWa0 ec_putM
attribute [local go_sem ↓] loadEn storeEn loadSd storeSd en_z0
attribute [local go_sem] wideEn wideSd fold_sc size11 putRow_newB putRow_newC ms5_lit
attribute [local simp] en_z0 putRow_newB putRow_newC fit_le ec_has



attribute [local go_sem ↓] mlitZ zenc_po zenc_en zenc_q
attribute [local simp] mlitZ

theorem mul64_one (n : Nat) (hn : n ≤ 64) (w : World) : Calls Tryz.prog 217 #[.int .u64 1, .int .u64 n] w fun e w' => e = .returned (.tuple #[.int .u64 0, .int .u64 n]) ∧ w = w' := by
  have b1 : bits BinOp.and IntKind.u64 1 4294967295 = 1 := by decide
  have b0 : bits BinOp.and IntKind.u64 0 4294967295 = 0 := by decide
  have b2 : bits BinOp.and IntKind.u64 (n : Int) 4294967295 = (n : Int) := by
    have : ∀ k : Fin 65, bits BinOp.and IntKind.u64 ((k.val : Nat) : Int) 4294967295 = ((k.val : Nat) : Int) := by decide
    exact this ⟨n, by omega⟩
  have d0 : (n : Int) / 4294967296 = 0 := by omega
  have w1 : IntKind.u64.wrap (n : Int) = (n : Int) := by
    have : ∀ k : Fin 65, IntKind.u64.wrap ((k.val : Nat) : Int) = ((k.val : Nat) : Int) := by decide
    exact this ⟨n, by omega⟩
  have w0 : IntKind.u64.wrap 0 = 0 := by decide
  go_enter Tryz.func217, Tryz.ntmps217
  try dsimp only [List.append]
  go_wp2_with fail
  go_ret2
  exact ⟨by simp, rfl⟩
theorem mul_one (n : Nat) (hn : n ≤ 64) (w : World) : Calls Tryz.prog 159 #[.int .u64 1, .int .u64 n] w fun e w' => e = .returned (.tuple #[.int .u64 0, .int .u64 n]) ∧ w = w' := by
  go_enter Tryz.func159, Tryz.ntmps159
  try dsimp only [List.append]
  go_wp2_with (first | (go_at_call 217; refine (mul64_one n hn _).mono ?_; rintro e w' ⟨rfl, rfl⟩))
  go_ret2
  exact ⟨rfl, rfl⟩
theorem made_sq {α : Type} {enc : α → List Value} {k : Nat} (hk : ∀ a, (enc a).length = k) (h0 : 0 < k) (a0 : α) (n : Nat) : madeCells (enc a0).toArray (n * k) = sq enc (List.replicate n a0) [] := by
  apply Array.ext
  · rw [sq_size hk]; simp [madeCells]
  · intro i h1 h2
    have hi : i < n * k := by simpa [madeCells] using h1
    obtain ⟨j, d, hj, hd, rfl⟩ : ∃ j d, j < n ∧ d < k ∧ i = j * k + d := ⟨i / k, i % k, by rw [Nat.div_lt_iff_lt_mul h0]; exact hi, Nat.mod_lt _ h0, by rw [Nat.mul_comm]; exact (Nat.div_add_mod i k).symm⟩
    have h3 : (List.replicate n a0)[j]? = some a0 := by rw [List.getElem?_replicate, if_pos hj]
    have h4 := sq_cell hk h3 [] d hd
    rw [Array.getElem?_eq_getElem h2] at h4
    have e11 : (enc a0).toArray.size = k := by simp [hk]
    have hmod : (j * k + d) % k = d := by rw [Nat.add_comm, Nat.add_mul_mod_self_right, Nat.mod_eq_of_lt hd]
    simp only [madeCells, Array.getElem_map, Array.getElem_range]
    have h5 : ((enc a0).toArray)[d]? = (enc a0)[d]? := by rw [List.getElem?_toArray]
    rw [← h4, Array.getElem?_eq_getElem (by rw [e11]; exact hd)] at h5
    rw [e11, hmod, getElem!_pos (enc a0).toArray d (by rw [e11]; exact hd)]
    exact Option.some.inj h5
section
variable {P : Program} {t e : TypeId} {ty : TypeId}
/-- 'copy(d, x)': as many as fit. -/
theorem run_copy_min {t' : TypeId} {i : TypeInfo} (ht : P.underlying t = some (.slice e)) (hi : P.info? e = some i) (w : World) (b o : Nat) (A : Option Addr) (n c m d k : Nat) (xs : List Value) (hk : Nat.min n m = k) (h : Sl w i.size A k xs) (h1 : ∀ v ∈ xs, v.oneCell' = true) (hb : rowHas (w.heap[b]?) o xs.length = true) :
    copR P t t' ty #[.slice (some ⟨b, o, none⟩) m d, .slice A n c] w = .ok (goInt k) (putRow w b o xs.toArray) := by
  have hf := run_firstCells_sl (P := P) w i.size k A n c xs h
  have hst := run_storeCells_cells (P := P) b o xs 0 w ?_ ?_ h1
  · simp only [Nat.add_zero] at hst
    simp [copR, Builtin.copy_, run_underlying ht, Builtin.lenOf, sizeOf, typeInfo, hi, hf, hst, putRow, hk]
  all_goals
    intro j hj
    rw [Nat.add_zero]
    cases e : w.heap[b]? with
    | none => rw [e] at hb; cases hb
    | some x =>
      rw [e] at hb
      cases x with
      | cells c t f =>
        simp [rowHas] at hb
        obtain ⟨hb, rfl⟩ := hb
        have := hb.out
        first
          | (rw [cell_row, e, rowCell_some]; simp; omega)
          | (rw [frozen_row, e, rowFrozen_some])
      | _ => simp [rowHas] at hb
end
theorem cat_more {α : Type} {k : Nat} {enc : α → List Value} (hk : ∀ a, (enc a).length = k) (xs ys zs : List α) (h : zs.length ≤ ys.length) : splice (cat enc (xs ++ ys)) (xs.length * k) (cat enc zs) = cat enc (xs ++ zs ++ ys.drop zs.length) := by
  unfold splice
  rw [cat_append, cat_append, cat_append, List.take_left' (cat_length hk xs), List.drop_append, List.drop_eq_nil_of_le (by rw [cat_length hk, cat_length hk]; omega), cat_length hk, cat_length hk, List.nil_append, Nat.add_sub_cancel_left]
  congr 1
  have : ∀ (n : Nat) (l : List α), (cat enc l).drop (n * k) = cat enc (l.drop n) := by
    intro n
    induction n with
    | zero => intro l; simp
    | succ n ih =>
      intro l
      cases l with
      | nil => simp [cat]
      | cons a l =>
        rw [List.drop_succ_cons, ← ih l, cat_cons, Nat.add_mul, Nat.one_mul, Nat.add_comm, ← hk a, List.drop_append]
        simp
  exact this _ _

theorem en_info : (Tryz.prog.info? 56).map (fun i => (i.zero, i.size, i.bytes)) = some (some (.agg (ec enZ)), 15, 112) := by kernel_rfl
def repE (e : En) (n k : Nat) : List En := List.replicate k e ++ List.replicate (n - k) enZ
theorem repE_len (e : En) (n k : Nat) (h : k ≤ n) : (repE e n k).length = n := by simp [repE]; omega
theorem repE_zero (e : En) (n : Nat) : repE e n 0 = List.replicate n enZ := by simp [repE]
theorem repE_all (e : En) (n : Nat) : repE e n n = List.replicate n e := by simp [repE]
theorem repE_put (e : En) (n k j : Nat) (hj : k + j ≤ n) (t : TypeId) (f : Nat × Nat) : rowPut (some (.cells (sq En.enc (repE e n k) []) t f)) (k * 15) (cat En.enc (List.replicate j e)).toArray = some (.cells (sq En.enc (repE e n (k + j)) []) t f) := by
  rw [rowPut_some, sq_toList, List.append_nil, List.toList_toArray]
  have h1 : splice (cat En.enc (repE e n k)) (k * 15) (cat En.enc (List.replicate j e)) = cat En.enc (repE e n (k + j)) := by
    have h2 := cat_more En.len (List.replicate k e) (List.replicate (n - k) enZ) (List.replicate j e) (by simp; omega)
    rw [List.length_replicate] at h2
    unfold repE
    rw [h2, List.length_replicate, List.replicate_append_replicate, List.drop_replicate, show n - k - j = n - (k + j) by omega]
  rw [h1]
  unfold sq
  rw [List.append_nil]
theorem run_make_ents (w : World) (n : Nat) (hn : n ≤ 64) : mkR Tryz.prog 86 (.int .i64 n) (.int .i64 n) w = .ok (.slice (some ⟨w.heap.size, 0, none⟩) n n) (w.alloc (.cells (sq En.enc (List.replicate n enZ) []) 56)) := by
  obtain ⟨i0, hi0, hz0, hz1, hz2⟩ := info_parts en_info
  have := run_make (P := Tryz.prog) w 86 56 i0 _ Tryz.underlying86 hi0 hz0 .i64 .i64 n n (by omega) (by omega) (by rw [hz2]; omega) (by omega)
  simp only [Int.toNat_natCast, hz1] at this
  rw [← made_sq En.len (by decide)]
  exact this
/-- 'x[k:]', 'x[:k]' of a slice at a block's head. -/
theorem slR_from (w : World) (b n k : Nat) (hk : k < n) : slR Tryz.prog 86 (.slice (some ⟨b, 0, none⟩) n n) (some (.int .i64 k)) none none w = .ok (.slice (some ⟨b, k * 15, none⟩) (n - k) (n - k)) w := by
  obtain ⟨i0, hi0, hz0, hz1, hz2⟩ := info_parts en_info
  unfold slR
  have h1 : (0 : Int) ≤ (k : Int) := by omega
  have h4 : k ≤ n := by omega
  have h5 : ¬ n = k := by omega
  simp [Instr.slice, Instr.sliceBounds, Instr.sliceBound, asIntOf, run_underlying Tryz.underlying86, sizeOf, typeInfo, hi0, hz1, h1, h4, h5, Addr.add]
  omega
theorem slR_to (w : World) (b n k : Nat) (hk : k ≤ n) : slR Tryz.prog 86 (.slice (some ⟨b, 0, none⟩) n n) none (some (.int .i64 k)) none w = .ok (.slice (some ⟨b, 0, none⟩) k n) w := by
  obtain ⟨i0, hi0, hz0, hz1, hz2⟩ := info_parts en_info
  unfold slR
  have h1 : (0 : Int) ≤ (k : Int) := by omega
  simp [Instr.slice, Instr.sliceBounds, Instr.sliceBound, asIntOf, run_underlying Tryz.underlying86, sizeOf, typeInfo, hi0, h1, Addr.add]
  intro h; omega

theorem ent_copyS (w : World) (b e0 n k m d c : Nat) (A : Option Addr) (o : Nat) (xs : List En) (hk : Nat.min c m = k) (h : Sl w 15 A k (cat En.enc xs)) (hb : rowHas (w.heap[b]?) o (cat En.enc xs).length = true) :
    copR Tryz.prog 86 86 3 #[.slice (some ⟨b, o, none⟩) m d, .slice A c n] w = .ok (goInt k) (putRow w b o (cat En.enc xs).toArray) := by
  obtain ⟨i0, hi0, hz0, hz1, hz2⟩ := info_parts en_info
  rw [← hz1] at h
  exact run_copy_min Tryz.underlying86 hi0 w b o A c n m d k _ hk h (fun v hv => cat_one_cell En.one xs v hv) hb
theorem repeat_ok (e : En) (b n : Nat) (w : World) (hb : w.heap[b]? = some (.cells (sq En.enc [e] []) 56 (0, 0))) (h1 : 1 ≤ n) (hn : n ≤ 64) :
    Calls Tryz.prog 100 #[.slice (some ⟨b, 0, none⟩) 1 1, .int .i64 n] w fun r w' => ∃ b', r = .returned (.slice (some ⟨b', 0, none⟩) n n) ∧ w'.heap[b']? = some (.cells (sq En.enc (List.replicate n e) []) 56 (0, 0)) ∧ w.heap.size ≤ b' ∧ Chg [] w w' := by
  have hmk := fun W => run_make_ents W n hn
  have HB := Lib.hid hb
  have OB := Lib.hid (old hb)
  have g0 : (0 : Int) ≤ (n : Int) := by omega
  have g1 : (n : Int) ≤ 64 := by omega
  have t1 : decide ((n : Int) < 0) = false := by simp
  have u1 : IntKind.u64.wrap (n : Int) = (n : Int) := by
    have : ∀ k : Fin 65, IntKind.u64.wrap ((k.val : Nat) : Int) = ((k.val : Nat) : Int) := by decide
    exact this ⟨n, by omega⟩
  have u2 : IntKind.i64.wrap (n : Int) = (n : Int) := by
    have : ∀ k : Fin 65, IntKind.i64.wrap ((k.val : Nat) : Int) = ((k.val : Nat) : Int) := by decide
    exact this ⟨n, by omega⟩
  have t2 : decide ((9223372036854775807 : Int) < (n : Int)) = false := by simp; omega
  have c1 := (Chg.refl [] w).alloc (.cells (sq En.enc (List.replicate n enZ) []) 56)
  have hz : (w.alloc (.cells (sq En.enc (List.replicate n enZ) []) 56)).heap[w.heap.size]? = some (.cells (sq En.enc (repE e n 0) []) 56 (0, 0)) := by rw [repE_zero]; simp
  have hcp := ent_copyS (w.alloc (.cells (sq En.enc (List.replicate n enZ) []) 56)) w.heap.size 0 1 1 n n 1 (some ⟨b, 0, none⟩) 0 [e] (Nat.min_eq_left h1) ⟨by rw [cat_length En.len]; rfl, .inr ⟨b, 0, _, _, _, rfl, c1.keep hb (by simp), by rw [sq_toList, List.append_nil, List.drop_zero, List.take_of_length_le (by rw [cat_length En.len]; exact Nat.le_refl _)]⟩⟩ (by
    rw [hz, rowHas_some, sq_size En.len, repE_len e n 0 (by omega), cat_length En.len]
    exact decide_eq_true (show 0 + [e].length * 15 ≤ n * 15 + ([] : List Value).length by simp; omega))
  have hw2 : (putRow (w.alloc (.cells (sq En.enc (List.replicate n enZ) []) 56)) w.heap.size 0 (cat En.enc [e]).toArray).heap[w.heap.size]? = some (.cells (sq En.enc (repE e n 1) []) 56 (0, 0)) := by
    rw [heap_putRow _ _ _ _ _ (by
      rw [hz, rowHas_some, sq_size En.len, repE_len e n 0 (by omega)]
      refine decide_eq_true (show 0 + (cat En.enc [e]).toArray.size ≤ n * 15 + ([] : List Value).length from ?_)
      rw [List.size_toArray, cat_length En.len]; simp; omega), if_pos rfl, hz]
    have := repE_put e n 0 1 (by omega) 56 (0, 0)
    simpa using this
  have HC2 := Lib.hid (c1.putRow w.heap.size 0 (cat En.enc [e]).toArray (.inr (Nat.le_refl _)))
  have HW2 := Lib.hid hw2
  clear hb hz c1 hw2
  go_enter Tryz.func100, Tryz.ntmps100
  try dsimp only [List.append]
  go_wp2_with (first | (go_at_call 159; refine (mul_one n hn _).mono ?_; rintro e w' ⟨rfl, rfl⟩))
  have HLE := Lib.hid (Nat.le_refl w.heap.size)
  generalize hb2 : w.heap.size = b2 at hcp HC2 HW2 HLE ⊢
  have HB2 := Lib.hid hb2
  generalize putRow (w.alloc (.cells (sq En.enc (List.replicate n enZ) []) 56)) b2 0 (cat En.enc [e]).toArray = w3 at HC2 HW2 ⊢
  clear hcp hb2
  go_loopw [8] (fun ix wr => ∃ k : Nat, 1 ≤ k ∧ k ≤ n ∧ ix = .int .i64 k ∧ wr.heap[b2]? = some (.cells (sq En.enc (repE e n k) []) 56 (0, 0)) ∧ Chg [] w wr) (fun ix _ => n - (intOf ix).toNat)
  case atStart => exact ⟨1, by omega, h1, rfl, HW2.out, HC2.out⟩
  case round =>
    obtain ⟨k, hk1, hkn, rfl, hk, hck⟩ := hrel
    by_cases hlt : k < n
    · have q1 : (k : Int) < (n : Int) := by omega
      have HCK := Lib.hid hck
      have HK := Lib.hid hk
      have s1 := fun W => slR_from W b2 n k hlt
      have s2 := fun W => slR_to W b2 n k hkn
      obtain ⟨j, hj⟩ : ∃ j, min k (n - k) = j := ⟨_, rfl⟩
      have hj1 : 1 ≤ j ∧ k + j ≤ n := by omega
      have hjk : j ≤ k := by omega
      have hwr : wrap64 ((k : Int) + (j : Int)) = ((k + j : Nat) : Int) := by unfold wrap64; omega
      have hro : rowHas ((wr.drew).heap[b2]?) (k * 15) (cat En.enc (List.replicate j e)).length = true := by
        rw [heap_drew, hk, rowHas_some, sq_size En.len, repE_len e n k hkn, cat_length En.len, List.length_replicate]
        refine decide_eq_true (show k * 15 + j * 15 ≤ n * 15 + ([] : List Value).length from ?_)
        simp; omega
      have hcp := ent_copyS wr.drew b2 0 n j (n - k) (n - k) k (some ⟨b2, 0, none⟩) (k * 15) (List.replicate j e) hj ⟨by rw [cat_length En.len, List.length_replicate], .inr ⟨b2, 0, _, _, _, rfl, hk, by
        rw [sq_toList, List.append_nil, List.drop_zero, cat_take En.len]
        unfold repE
        rw [List.take_append_of_le_length (by simp; omega), List.take_replicate, Nat.min_eq_left hjk]⟩⟩ hro
      have hw4 : (putRow wr.drew b2 (k * 15) (cat En.enc (List.replicate j e)).toArray).heap[b2]? = some (.cells (sq En.enc (repE e n (k + j)) []) 56 (0, 0)) := by
        rw [heap_putRow _ _ _ _ _ (by rw [List.size_toArray]; exact hro), if_pos rfl, heap_drew, hk]
        exact repE_put e n k j hj1.2 _ _
      have HW4 := Lib.hid hw4
      have HJ := Lib.hid hj1
      have HC4 := Lib.hid (hck.drew.putRow b2 (k * 15) (cat En.enc (List.replicate j e)).toArray (.inr (by rw [HB2.out]; exact Nat.le_refl _)))
      have HWR := Lib.hid hwr
      clear hk hck hj hj1 hjk hro hw4 hwr
      go_wp2_with fail
      go_region
      all_goals
        go_wp2_with fail
        go_roundw
        case rel => exact ⟨k + j, by have := HJ.out; omega, HJ.out.2, by rw [HWR.out], HW4.out, HC4.out⟩
        case measure => have := HJ.out; rw [HWR.out]; simp only [intOf]; omega
    · obtain rfl : k = n := by omega
      have HK := Lib.hid hk
      have HCK := Lib.hid hck
      clear hk hck
      go_wp2_with fail
      go_ret
      refine ⟨b2, rfl, ?_, by rw [HB2.out]; exact Nat.le_refl _, HCK.out⟩
      rw [← repE_all]
      exact HK.out
end Go.Proofs.YtadeoflkppiflaaGreatDoor
end
section
namespace Go.Proofs.YtadeoflkppiflaaGreatDoor
open Go.RowKit
set_option linter.unusedVariables false
set_option maxHeartbeats 1000000
set_option maxRecDepth 100000
attribute [local go_sem ↓] append_appS copy_copS clear_clrS make_mkS cell_row frozen_row loadLine storeLine loadSlot storeSlot heap_drew heap_drewN heap_alloc heap_past heap_setCell heap_putRow vs_get slc_st slc_li slc_us slice_slS loadMsg storeMsg loadHas storeHas msc_kd msc_li msc_di msc_ke
attribute [local go_sem] rowCell_some rowFrozen_some rowHas_some rowIn_some rowPart_full rowPart_lit rowPut_full rowPut_lit rowSet_some size_putRow vs_size vs_one wideLine wideSlot run_loadS run_storeS run_appS run_copS run_clrS run_mkS loadW_at storeW_at fit_all fit_le one_int one_bool one_pointer one_slice allOne_list putRow_new ne_size1 ne_size2 ne_size3 ne_size4 zero8_length lines_nil line_eq lit8 slc_size slc_one slc_part slc_in fold_slt fold_slc slc_set_us wideMsg wideHas run_slS msc_size msc_one msc_part msc_in fold_msc msc_putDi msc_putKe msc_putX msc_has ms4_lit
attribute [local simp ↓] heap_drew heap_drewN heap_alloc heap_past heap_setCell heap_putRow
attribute [local simp] rowCell_some rowFrozen_some rowHas_some rowIn_some rowPart_full rowPart_lit rowPut_full rowPut_lit rowSet_some size_putRow vs_size fit_all putRow_new ne_size1 ne_size2 ne_size3 ne_size4 zero8_length slc_size msc_size msc_putDi msc_putKe msc_putX msc_has fit_le
attribute [local go_sem ↓] ec_he ec_di ec_ow ec_sh ec_bu ec_by ec_wa sc_to
attribute [local go_sem] mi_and mi_or mi_not mi_beq0 mi_bne0 ec_size ec_one ec_part ec_in ec_has ec_setDi ec_setOw ec_setSh ec_setBu ec_setBy ec_setWa ec_setSh0 ec_setWa0 ec_putM sc_size sc_one sc_part sc_in
attribute [local simp] ec_size sc_size ec_setDi ec_setOw ec_setSh ec_setBu ec_setBy ec_setWa ec_setSh0 ec_setWa0 ec_putM
attribute [local go_sem ↓] loadEn storeEn loadSd storeSd en_z0
attribute [local go_sem] wideEn wideSd fold_sc size11 putRow_newB putRow_newC ms5_lit
attribute [local simp] en_z0 putRow_newB putRow_newC fit_le ec_has



attribute [local go_sem ↓] mlitZ zenc_po zenc_en zenc_q
attribute [local simp] mlitZ

/-- A port's row while it is made: its agent, or none yet. -/
def zp (o : Option Nat) : List Value := [.pointer (o.map fun g => ⟨g, 0, none⟩), .slice none 0 0, .slice none 0 0, .slice none 0 0, .slice none 0 0, .slice none 0 0, .slice none 0 0]
theorem zp_len (o : Option Nat) : (zp o).length = 7 := rfl
theorem port_info : (Tryz.prog.info? 139).map (fun i => (i.zero, i.size, i.bytes)) = some (some (.agg (zp none).toArray), 7, 152) := by kernel_rfl
theorem run_make_ports (w : World) (n : Nat) (hn : n ≤ 64) : mkR Tryz.prog 85 (.int .i64 n) (.int .i64 n) w = .ok (.slice (some ⟨w.heap.size, 0, none⟩) n n) (w.alloc (.cells (sq zp (List.replicate n none) []) 139)) := by
  obtain ⟨i0, hi0, hz0, hz1, hz2⟩ := info_parts port_info
  have := run_make (P := Tryz.prog) w 85 139 i0 _ Tryz.underlying85 hi0 hz0 .i64 .i64 n n (by omega) (by omega) (by rw [hz2]; omega) (by omega)
  simp only [Int.toNat_natCast, hz1] at this
  rw [← made_sq zp_len (by decide)]
  exact this
abbrev Trip := Nat × Nat × Nat
def rowsZ (gs : List Trip) (n : Nat) : List (Option Nat) := gs.map (fun y => some y.1) ++ List.replicate (n - gs.length) none
theorem rowsZ_nil (n : Nat) : rowsZ [] n = List.replicate n none := by simp [rowsZ]
theorem rowsZ_at (gs : List Trip) (n : Nat) (h : gs.length < n) : (rowsZ gs n)[gs.length]? = some none := by
  unfold rowsZ
  rw [List.getElem?_append_right (by simp), List.length_map, Nat.sub_self, List.getElem?_replicate, if_pos (by omega)]
theorem rowsZ_set (gs : List Trip) (n : Nat) (y : Trip) (h : gs.length < n) : (rowsZ gs n).set gs.length (some y.1) = rowsZ (gs ++ [y]) n := by
  unfold rowsZ
  rw [List.set_append_right _ _ (by simp), List.length_map, Nat.sub_self, show n - gs.length = (n - (gs ++ [y]).length) + 1 by simp; omega, List.replicate_succ, List.set_cons_zero, List.map_append]
  simp
def trips (gs : List Trip) : List Nat := gs.flatMap fun y => [y.1, y.2.1, y.2.2]
theorem trips_snoc (gs : List Trip) (y : Trip) : trips (gs ++ [y]) = trips gs ++ [y.1, y.2.1, y.2.2] := by simp [trips]
def st0 (c : Cg) : Sta := (List.replicate (c.se * c.wa) sltZ, 0)
def pt0 (c : Cg) : Pt := ⟨st0 c, [], [], []⟩
def mkPo (po : Nat) (y : Trip) : Po := ⟨y.1, y.2.1, y.2.2, po, none, 0, po, none, 0, po, none, 0⟩
theorem mkPo_foot (po : Nat) (y : Trip) : (mkPo po y).foot po = [y.1, y.2.1, y.2.2] := by simp [Po.foot, mkPo, opt]
theorem Agt.weak {W w0 w : World} {g a b S N : Nat} {s : Sta} (h : Agt w0 w g a b S N s) (hc : Chg [] W w0) : Agt W w g a b S N s :=
  ⟨⟨hc.trans h.1.1, h.1.2.1, Nat.le_trans hc.size h.1.2.2.1, Nat.le_trans hc.size h.1.2.2.2⟩, h.2.1, Nat.le_trans hc.size h.2.2.1, h.2.2.2⟩
theorem sq_oneE (e : En) : sq En.enc [e] [] = ec e := by simp [sq, cat, ec]
theorem cat_map {α β : Type} (enc : β → List Value) (f : α → β) (xs : List α) : cat enc (xs.map f) = cat (fun a => enc (f a)) xs := by unfold cat; rw [List.map_map]; rfl
def portsOf (po : Nat) (c : Cg) (gs : List Trip) : List (Po × Pt) := gs.map fun y => (mkPo po y, pt0 c)
theorem portsOf_sq (po : Nat) (c : Cg) (gs : List Trip) (n : Nat) (h : gs.length = n) : sq zp (rowsZ gs n) [] = sq penc (portsOf po c gs) [] := by
  unfold sq rowsZ portsOf
  simp only [h, Nat.sub_self, List.replicate_zero, List.append_nil, cat_map]
  rfl
theorem portsOf_feet (po : Nat) (c : Cg) (gs : List Trip) : feet po (portsOf po c gs) = trips gs := by
  unfold feet portsOf trips
  rw [List.map_map, List.flatMap_def]
  congr 1
  apply List.map_congr_left
  intro y _
  exact mkPo_foot po y
theorem portsOf_ports (po : Nat) (c : Cg) (gs : List Trip) : ports (portsOf po c gs) = List.replicate gs.length (pt0 c) := by
  unfold ports portsOf
  rw [List.map_map]
  exact List.map_const'
/-- A configuration that is good. -/
structure Cg.Ok (c : Cg) : Prop where
  co1 : 1 ≤ c.co
  co8 : c.co ≤ 8
  li2 : 2 ≤ c.li
  li64 : c.li ≤ 64
  vo1 : 1 ≤ c.vo
  vol : c.vo < c.li
  new : goodNew (c.se : Int) (c.wa : Int)
  qu1 : 1 ≤ c.qu
  qu16 : c.qu ≤ 16
  st1 : 1 ≤ c.st
  st16 : c.st ≤ 16
/-- All ports, entries are made anew. -/
def Fresh (W w : World) (c : Cg) (sy : Nat) (C : Array Value) (w' : World) : Prop :=
  ∃ po en L, w'.heap[sy]? = some (.cells ((C.setIfInBounds 8 (.slice (some ⟨po, 0, none⟩) c.co c.co)).setIfInBounds 9 (.slice (some ⟨en, 0, none⟩) c.li c.li)) 95 (0, 0)) ∧
    w'.heap[po]? = some (.cells (sq penc L []) 139 (0, 0)) ∧ L.length = c.co ∧ w'.heap[en]? = some (.cells (sq En.enc (List.replicate c.li enE) []) 56 (0, 0)) ∧ (∀ y ∈ L, PortOk W w' po c.se c.wa y) ∧
    ports L = List.replicate c.co (pt0 c) ∧ (po :: en :: feet po L).Nodup ∧ (∀ k ∈ po :: en :: feet po L, w.heap.size ≤ k) ∧ Chg [sy] w w'
theorem forget_ok (W w : World) (c : Cg) (hc : c.Ok) (sy : Nat) (C : Array Value) (hW : Chg [] W w) (hsW : W.heap.size ≤ sy) (hs : w.heap[sy]? = some (.cells C 95 (0, 0))) (c0 : C[0]? = some (.int .i64 c.co)) (c1 : C[1]? = some (.int .i64 c.li)) (c3 : C[3]? = some (.int .i64 c.se)) (c4 : C[4]? = some (.int .i64 c.wa))
    (v8 v9 : Value) (c8 : C[8]? = some v8) (c9 : C[9]? = some v9) : Calls Tryz.prog 43 #[.pointer (some ⟨sy, 0, none⟩)] w fun e w' => e = .returned (.tuple #[]) ∧ Fresh W w c sy C w' := by
  have hmk := fun W => run_make_ports W c.co (by have := hc.co8; omega)
  have HC := Lib.hid hc
  have HW := Lib.hid hW
  have HSW := Lib.hid hsW
  have H9 := Lib.hid c9
  have H8 := Lib.hid c8
  have os := old hs
  have nsz : sy ≠ w.heap.size := by have := os.lt; omega
  have nsz' : w.heap.size ≠ sy := Ne.symm nsz
  have HS0 := Lib.hid hs
  have gco : (c.co : Int) ≤ 8 := by have := hc.co8; omega
  clear hc hW hsW
  go_enter Tryz.func43, Tryz.ntmps43
  try dsimp only [List.append]
  go_upto_region 1 with fail
  have rS : ((w.alloc (.cells (sq zp (List.replicate c.co none) []) 139)).setCell ⟨sy, 8, none⟩ (.slice (some ⟨w.heap.size, 0, none⟩) c.co c.co)).heap[sy]? = some (.cells (C.setIfInBounds 8 (.slice (some ⟨w.heap.size, 0, none⟩) c.co c.co)) 95 (0, 0)) := by
    rw [heap_setCell, if_pos rfl, heap_alloc, hs]; rfl
  have rP : ((w.alloc (.cells (sq zp (List.replicate c.co none) []) 139)).setCell ⟨sy, 8, none⟩ (.slice (some ⟨w.heap.size, 0, none⟩) c.co c.co)).heap[w.heap.size]? = some (.cells (sq zp (rowsZ [] c.co) []) 139 (0, 0)) := by
    rw [heap_setCell, if_neg nsz', rowsZ_nil]; exact new_blk _ _
  have K1 := Lib.hid (((Chg.refl [sy] w).alloc (.cells (sq zp (List.replicate c.co none) []) 139)).setCell sy 8 (.slice (some ⟨w.heap.size, 0, none⟩) c.co c.co) (.inl (by simp)))
  have d0 : (C.setIfInBounds 8 (.slice (some ⟨w.heap.size, 0, none⟩) c.co c.co))[0]? = some (.int .i64 c.co) := set_other c0 (by decide)
  have d1 : (C.setIfInBounds 8 (.slice (some ⟨w.heap.size, 0, none⟩) c.co c.co))[1]? = some (.int .i64 c.li) := set_other c1 (by decide)
  have d3 : (C.setIfInBounds 8 (.slice (some ⟨w.heap.size, 0, none⟩) c.co c.co))[3]? = some (.int .i64 c.se) := set_other c3 (by decide)
  have d4 : (C.setIfInBounds 8 (.slice (some ⟨w.heap.size, 0, none⟩) c.co c.co))[4]? = some (.int .i64 c.wa) := set_other c4 (by decide)
  have d8 : (C.setIfInBounds 8 (.slice (some ⟨w.heap.size, 0, none⟩) c.co c.co))[8]? = some (.slice (some ⟨w.heap.size, 0, none⟩) c.co c.co) := set_this c8
  have d9 := Lib.hid (show (C.setIfInBounds 8 (.slice (some ⟨w.heap.size, 0, none⟩) c.co c.co))[9]? = some v9 from set_other c9 (by decide))
  have HPO := Lib.hid (Nat.le_refl w.heap.size)
  have HSY := Lib.hid os.lt
  generalize hpo : w.heap.size = po at rS rP K1 d0 d1 d3 d4 d8 d9 nsz nsz' HPO HSY ⊢
  have HB := Lib.hid hpo
  generalize hC8 : C.setIfInBounds 8 (.slice (some ⟨po, 0, none⟩) c.co c.co) = C8 at rS d0 d1 d3 d4 d8 d9
  have HC8 := Lib.hid hC8
  generalize (w.alloc (.cells (sq zp (List.replicate c.co none) []) 139)).setCell ⟨sy, 8, none⟩ (.slice (some ⟨po, 0, none⟩) c.co c.co) = w1 at rS rP K1 ⊢
  clear hpo hC8 hs os c0 c1 c3 c4 c8 c9 hmk
  go_wp2_with fail
  have hp1 : po < w1.heap.size := lt_heap rP
  go_loopw [17] (fun ix wr => ∃ gs : List Trip, gs.length ≤ c.co ∧ ix = .int .i64 gs.length ∧ wr.heap[sy]? = some (.cells C8 95 (0, 0)) ∧ wr.heap[po]? = some (.cells (sq zp (rowsZ gs c.co) []) 139 (0, 0)) ∧
      (∀ y ∈ gs, Agt W wr y.1 y.2.1 y.2.2 c.se c.wa (st0 c)) ∧ (trips gs).Nodup ∧ (∀ x ∈ trips gs, po < x ∧ x < wr.heap.size) ∧ Chg [sy] w wr) (fun ix _ => c.co - (intOf ix).toNat)
  case atStart => exact ⟨[], by simp, rfl, rS, rP, by simp, by simp [trips], by simp [trips], K1.out⟩
  case round =>
    clear rS rP hp1
    obtain ⟨gs, hg, rfl, rS, rP, hag, hnd, hlt, hch⟩ := hrel
    have HAG := Lib.hid hag
    have HND := Lib.hid hnd
    have HLT := Lib.hid hlt
    have HCH := Lib.hid hch
    clear hag hnd hlt hch
    obtain ⟨k, hk⟩ : ∃ k, gs.length = k := ⟨_, rfl⟩
    have HKK := Lib.hid hk
    rw [hk] at hg ⊢
    clear hk
    by_cases hlk : k < c.co
    · have g1 : (k : Int) < (c.co : Int) := by omega
      have g0 : (0 : Int) ≤ (k : Int) := by omega
      have hnew := gnew_ok c.se c.wa wr wr.drew (Chg.refl [] wr).drew HC.out.new
      have HN := Lib.hid hnew
      have RP := Lib.hid rP
      have hz : (sq zp (rowsZ gs c.co) [])[k * 7]? = some (.pointer none) := by
        have h1 := rowsZ_at gs c.co (by rw [HKK.out]; exact hlk)
        rw [HKK.out] at h1
        exact sq_cell zp_len h1 [] 0 (by decide)
      have oS := old rS
      have oP := old rP
      clear hnew
      go_wp2_with fail
      go_region_held3 (fun w' => w'.heap[sy]? = some (.cells C8 95 (0, 0)))
        (first | (rw [heap_setCell, if_neg nsz]; exact s5) | exact s5 | exact rS)
        (first | (go_at_call 99; refine HN.out.mono ?_; rintro e w' ⟨g, a, b, rfl, hA5, hc5⟩; have s5 := hc5.keep rS List.not_mem_nil; have p5 := hc5.keep rP List.not_mem_nil; have o5 := old p5; have os5 := old s5))
      all_goals
        have hk0 := HKK.out
        have hlk' : gs.length < c.co := by rw [hk0]; exact hlk
        have cp : Chg [po] w' (w'.setCell ⟨po, k * 7, none⟩ (.pointer (some ⟨g, 0, none⟩))) := (Chg.refl [po] w').setCell po (k * 7) _ (.inl (by simp))
        have s6 : (w'.setCell ⟨po, k * 7, none⟩ (.pointer (some ⟨g, 0, none⟩))).heap[sy]? = some (.cells C8 95 (0, 0)) := by rw [heap_setCell, if_neg nsz]; exact s5
        have p6 : (w'.setCell ⟨po, k * 7, none⟩ (.pointer (some ⟨g, 0, none⟩))).heap[po]? = some (.cells (sq zp (rowsZ (gs ++ [(g, a, b)]) c.co) []) 139 (0, 0)) := by
          rw [heap_setCell, if_pos rfl, p5, rowSet_some]
          have h1 := rowsZ_at gs c.co hlk'
          have h2 := sq_put (o := 0) (b := some g) (v := .pointer (some ⟨g, 0, none⟩)) zp_len h1 (by decide) rfl
          rw [rowsZ_set gs c.co (g, a, b) hlk', hk0, Nat.add_zero] at h2
          rw [h2]
        have hWr : Chg [] W wr := HW.out.trans' HCH.out (fun x hx => .inr (by rw [List.mem_singleton.1 hx]; exact HSW.out))
        have hpW : W.heap.size ≤ po := by rw [← HB.out]; exact HW.out.size
        have hl2 := hA5.old2
        have hl1 := lt_heap hA5.2.1
        have hlg := hA5.2.2.1
        have hla := hA5.1.2.2
        have hgn := hA5.2.2.2.1
        have hab := hA5.1.2.1.2.2.1
        have hpr := oP.lt
        have hcs : wr.heap.size ≤ w'.heap.size := hc5.size
        have hsz6 : (w'.setCell ⟨po, k * 7, none⟩ (.pointer (some ⟨g, 0, none⟩))).heap.size = w'.heap.size := by simp
        simp only [List.mem_cons, List.not_mem_nil, or_false, forall_eq_or_imp, forall_eq] at hl2 hgn
        have HG6 := Lib.hid (show ∀ y ∈ gs ++ [(g, a, b)], Agt W (w'.setCell ⟨po, k * 7, none⟩ (.pointer (some ⟨g, 0, none⟩))) y.1 y.2.1 y.2.2 c.se c.wa (st0 c) by
          have hpl : ∀ x ∈ [po], W.heap.size ≤ x := fun x hx => by rw [List.mem_singleton.1 hx]; exact hpW
          intro y hy
          rcases List.mem_append.1 hy with h1 | h1
          · have hin : ∀ x, x ∈ [y.1, y.2.1, y.2.2] → x ∉ [po] := by
              intro x hx hm
              have h2 := (HLT.out x (List.mem_flatMap.2 ⟨y, h1, hx⟩)).1
              rw [List.mem_singleton.1 hm] at h2
              omega
            exact (((HAG.out y h1).keep (Chg.refl [] wr).drew).keep hc5).keepL cp hpl (hin _ (by simp)) (hin _ (by simp)) (hin _ (by simp))
          · rw [List.mem_singleton.1 h1]
            exact (hA5.weak hWr).keepL cp hpl (by simp; omega) (by simp; omega) (by simp; omega))
        have HN6 := Lib.hid (show (trips (gs ++ [(g, a, b)])).Nodup by
          rw [trips_snoc, List.nodup_append]
          refine ⟨HND.out, by simp; omega, ?_⟩
          intro x hx y hy e
          subst e
          have h2 := (HLT.out x hx).2
          simp only [List.mem_cons, List.not_mem_nil, or_false] at hy
          omega)
        have HL6 := Lib.hid (show ∀ x ∈ trips (gs ++ [(g, a, b)]), po < x ∧ x < (w'.setCell ⟨po, k * 7, none⟩ (.pointer (some ⟨g, 0, none⟩))).heap.size by
          intro x hx
          rw [hsz6]
          rw [trips_snoc, List.mem_append] at hx
          rcases hx with h1 | h1
          · have := HLT.out x h1; omega
          · simp only [List.mem_cons, List.not_mem_nil, or_false] at h1
            omega)
        have HC6 := Lib.hid ((HCH.out.trans (((Chg.refl [] wr).drew.trans hc5).mono (by simp))).setCell po (k * 7) (.pointer (some ⟨g, 0, none⟩)) (.inr (by rw [HB.out]; exact Nat.le_refl _)))
        have hlen : (gs ++ [(g, a, b)]).length = k + 1 := by simp [hk0]
        have S6 := Lib.hid s6
        have P6 := Lib.hid p6
        have HLN := Lib.hid hlen
        clear s5 p5 o5 os5 hA5 hc5 hk0 hlk' cp s6 p6 hWr hpW hl2 hl1 hlg hla hgn hab hpr hcs hsz6 hlen
        generalize w'.setCell ⟨po, k * 7, none⟩ (.pointer (some ⟨g, 0, none⟩)) = w6 at *
        go_wp2_with fail
        go_roundw
        case rel => exact ⟨gs ++ [(g, a, b)], by rw [HLN.out]; omega, by rw [HLN.out]; go_num, S6.out, P6.out, HG6.out, HN6.out, HL6.out, HC6.out⟩
        case measure => simp [intOf]; omega
    · obtain rfl : k = c.co := by omega
      have oS := old rS
      have RP := Lib.hid rP
      have e9 := d9.out
      have s0 : rowCell (wr.heap[sy]?) 1 = some (.int .i64 c.li) := by rw [rS, rowCell_some]; exact d1
      clear rP
      go_wp2_with fail
      go_region_held3 (fun w' => rowCell (w'.heap[sy]?) 1 = some (.int .i64 c.li))
        (first | (rw [heap_setCell, if_pos rfl, s6, rowSet_some, rowCell_some]; exact set_other d1 (by decide)) | (rw [s6, rowCell_some]; exact d1) | (rw [((Chg.refl [] _).alloc _).keep s5 List.not_mem_nil, rowCell_some]; exact d1) | (rw [s5, rowCell_some]; exact d1) | exact s0)
        (first
          | (go_at_call 77; refine (dempty_any _).mono ?_; rintro e w' ⟨rfl, c5⟩; have T5 := (Chg.refl [] wr).drew.trans c5; have s5 := T5.keep rS List.not_mem_nil)
          | (go_at_call 100; refine (repeat_ok enE _ c.li _ (by rw [sq_oneE]; exact new_blk _ _) (by have := HC.out.li2; omega) HC.out.li64).mono ?_; rintro e w' ⟨b9, rfl, e9b, l9, c6⟩; have T6 := (T5.alloc (.cells (ec enE) 56)).trans c6; have s6 := T6.keep rS List.not_mem_nil; have os6 := old s6))
      all_goals
        have hk0 := HKK.out
        have hpW : W.heap.size ≤ po := by rw [← HB.out]; exact HW.out.size
        have hcw : wr.heap.size ≤ w'.heap.size := T6.size
        have hpo9 : po < b9 := by have h1 := lt_heap RP.out; have h2 := T5.size; simp at l9; omega
        have hsy9 : sy < b9 := by have h1 := HSY.out; omega
        have hl9 : wr.heap.size ≤ b9 := by have h2 := T5.size; simp at l9; omega
        have cs : Chg [sy] w' (w'.setCell ⟨sy, 9, none⟩ (.slice (some ⟨b9, 0, none⟩) c.li c.li)) := (Chg.refl [sy] w').setCell sy 9 _ (.inl (by simp))
        have q1 : (w'.setCell ⟨sy, 9, none⟩ (.slice (some ⟨b9, 0, none⟩) c.li c.li)).heap[sy]? = some (.cells ((C.setIfInBounds 8 (.slice (some ⟨po, 0, none⟩) c.co c.co)).setIfInBounds 9 (.slice (some ⟨b9, 0, none⟩) c.li c.li)) 95 (0, 0)) := by
          rw [heap_setCell, if_pos rfl, s6, rowSet_some, HC8.out]
        have q2 : (w'.setCell ⟨sy, 9, none⟩ (.slice (some ⟨b9, 0, none⟩) c.li c.li)).heap[po]? = some (.cells (sq penc (portsOf po c gs) []) 139 (0, 0)) := by
          rw [← portsOf_sq po c gs c.co hk0]
          exact cs.keep (T6.keep RP.out (by simp)) (by simpa using Ne.symm nsz)
        have q3 : (w'.setCell ⟨sy, 9, none⟩ (.slice (some ⟨b9, 0, none⟩) c.li c.li)).heap[b9]? = some (.cells (sq En.enc (List.replicate c.li enE) []) 56 (0, 0)) := cs.keep e9b (by simp; omega)
        have HF := Lib.hid (show Fresh W w c sy C (w'.setCell ⟨sy, 9, none⟩ (.slice (some ⟨b9, 0, none⟩) c.li c.li)) by
          refine ⟨po, b9, portsOf po c gs, q1, q2, by simp [portsOf, hk0], q3, ?_, by rw [portsOf_ports, hk0], ?_, ?_, ?_⟩
          · intro y hy
            unfold portsOf at hy
            obtain ⟨y0, hy0, rfl⟩ := List.mem_map.1 hy
            have hin : ∀ x, x ∈ [y0.1, y0.2.1, y0.2.2] → x ∉ [sy] := by
              intro x hx hm
              have h2 := (HLT.out x (List.mem_flatMap.2 ⟨y0, hy0, hx⟩)).1
              have h3 := HSY.out
              rw [List.mem_singleton.1 hm] at h2
              omega
            refine ⟨((HAG.out y0 hy0).keep T6).keepL cs (fun x hx => by rw [List.mem_singleton.1 hx]; exact HSW.out) (hin _ (by simp)) (hin _ (by simp)) (hin _ (by simp)), .inl ⟨rfl, rfl, rfl, rfl⟩, .inl ⟨rfl, rfl, rfl, rfl⟩, .inl ⟨rfl, rfl, rfl, rfl⟩⟩
          · rw [portsOf_feet, List.nodup_cons, List.nodup_cons]
            refine ⟨?_, ?_, HND.out⟩
            · intro hm
              rcases List.mem_cons.1 hm with h1 | h1
              · omega
              · have := (HLT.out _ h1).1; omega
            · intro hm
              have := (HLT.out _ hm).2; omega
          · rw [portsOf_feet]
            intro x hx
            rw [HB.out]
            rcases List.mem_cons.1 hx with h1 | h1
            · omega
            · rcases List.mem_cons.1 h1 with h1 | h1
              · omega
              · have := (HLT.out x h1).1; omega
          · exact (HCH.out.trans (T6.mono (by simp))).trans cs)
        clear cs q1 q2 q3 s5 s6 os6 T5 T6 c5 c6
        go_wp2_with fail
        go_end0
        exact ⟨rfl, HF.out⟩
end Go.Proofs.YtadeoflkppiflaaGreatDoor
end
section
namespace Go.Proofs.YtadeoflkppiflaaGreatDoor
open Go.RowKit
set_option linter.unusedVariables false
set_option maxHeartbeats 1000000
set_option maxRecDepth 100000
attribute [local go_sem ↓] append_appS copy_copS clear_clrS make_mkS cell_row frozen_row loadLine storeLine loadSlot storeSlot heap_drew heap_drewN heap_alloc heap_past heap_setCell heap_putRow vs_get slc_st slc_li slc_us slice_slS loadMsg storeMsg loadHas storeHas msc_kd msc_li msc_di msc_ke
attribute [local go_sem] rowCell_some rowFrozen_some rowHas_some rowIn_some rowPart_full rowPart_lit rowPut_full rowPut_lit rowSet_some size_putRow vs_size vs_one wideLine wideSlot run_loadS run_storeS run_appS run_copS run_clrS run_mkS loadW_at storeW_at fit_all fit_le one_int one_bool one_pointer one_slice allOne_list putRow_new ne_size1 ne_size2 ne_size3 ne_size4 zero8_length lines_nil line_eq lit8 slc_size slc_one slc_part slc_in fold_slt fold_slc slc_set_us wideMsg wideHas run_slS msc_size msc_one msc_part msc_in fold_msc msc_putDi msc_putKe msc_putX msc_has ms4_lit
attribute [local simp ↓] heap_drew heap_drewN heap_alloc heap_past heap_setCell heap_putRow
attribute [local simp] rowCell_some rowFrozen_some rowHas_some rowIn_some rowPart_full rowPart_lit rowPut_full rowPut_lit rowSet_some size_putRow vs_size fit_all putRow_new ne_size1 ne_size2 ne_size3 ne_size4 zero8_length slc_size msc_size msc_putDi msc_putKe msc_putX msc_has fit_le
attribute [local go_sem ↓] ec_he ec_di ec_ow ec_sh ec_bu ec_by ec_wa sc_to
attribute [local go_sem] mi_and mi_or mi_not mi_beq0 mi_bne0 ec_size ec_one ec_part ec_in ec_has ec_setDi ec_setOw ec_setSh ec_setBu ec_setBy ec_setWa ec_setSh0 ec_setWa0 ec_putM sc_size sc_one sc_part sc_in
attribute [local simp] ec_size sc_size ec_setDi ec_setOw ec_setSh ec_setBu ec_setBy ec_setWa ec_setSh0 ec_setWa0 ec_putM
attribute [local go_sem ↓] loadEn storeEn loadSd storeSd en_z0
attribute [local go_sem] wideEn wideSd fold_sc size11 putRow_newB putRow_newC ms5_lit
attribute [local simp] en_z0 putRow_newB putRow_newC fit_le ec_has



attribute [local go_sem ↓] mlitZ zenc_po zenc_en zenc_q
attribute [local simp] mlitZ

theorem mem_all {z : Lay} {L : List (Po × Pt)} {k : Nat} : k ∈ z.all L ↔ (k = z.sy ∨ k = z.q ∨ k = z.g ∨ k = z.b ∨ k = z.po ∨ k = z.en ∨ (k = z.be ∧ z.be ≠ z.q)) ∨ k ∈ feet z.po L := by
  unfold Lay.all Lay.base
  simp only [List.mem_append, List.mem_cons, List.not_mem_nil, or_false, mem_opt]
  simp only [or_assoc]
/-- A system whose ports and entries are fresh. -/
theorem msd_fresh {W w w' : World} {c : Cg} {z : Lay} {es : List Ent} {xs : List Int} {C : Array Value} (he : ∀ po en : Nat, (C.setIfInBounds 8 (.slice (some ⟨po, 0, none⟩) c.co c.co)).setIfInBounds 9 (.slice (some ⟨en, 0, none⟩) c.li c.li) = (({ z with po := po, en := en } : Lay).enc c).toArray) (hW : Chg [] W w) (hs : w.heap[z.sy]? = some (.cells C 95 (0, 0))) (hsW : W.heap.size ≤ z.sy) (h6 : z.ks.length = 6)
    (hm : Sys W w z.q z.be z.g z.b c.li c.vo c.qu es xs) (hd : ([z.sy, z.q, z.g, z.b] ++ opt z.q z.be).Nodup) (hf : Fresh W w c z.sy C w') :
    ∃ po en L, Msd W w' c { z with po := po, en := en } L (List.replicate c.li enE) es xs ∧ ports L = List.replicate c.co (pt0 c) ∧ Chg [z.sy] w w' ∧ ∀ k ∈ ({ z with po := po, en := en } : Lay).all L, k ∈ [z.sy, z.q, z.g, z.b] ++ opt z.q z.be ∨ w.heap.size ≤ k := by
  obtain ⟨po, en, L, h1, h2, h3, h4, h5, hp, hn, hl, hc⟩ := hf
  have hq := hm.2.1.oldq.lt
  have hbe := hm.2.1.olde.lt
  have hg := hm.2.2.1.oldg
  have hb := hm.2.2.1.oldb
  have hsy := lt_heap hs
  have hWp := hW.size
  have hmem : ∀ k ∈ ({ z with po := po, en := en } : Lay).all L, k ∈ [z.sy, z.q, z.g, z.b] ++ opt z.q z.be ∨ w.heap.size ≤ k := by
    intro k hk
    rw [mem_all] at hk
    simp only [List.mem_append, List.mem_cons, List.not_mem_nil, or_false, mem_opt]
    dsimp only at hk
    rcases hk with (h | h | h | h | h | h | h) | h
    · simp [h]
    · simp [h]
    · simp [h]
    · simp [h]
    · exact .inr (by rw [h]; exact hl po (by simp))
    · exact .inr (by rw [h]; exact hl en (by simp))
    · exact .inl (.inr h)
    · exact .inr (hl k (by simp [h]))
  have n1 := (List.nodup_append.1 hd).1
  simp only [List.nodup_cons, List.mem_cons, List.not_mem_nil, or_false, not_or] at n1
  have n2 : z.be ≠ z.sy := by
    intro e
    by_cases hbq : z.be = z.q
    · exact n1.1.1 (by rw [← e, hbq])
    · exact (List.nodup_append.1 hd).2.2 z.sy (by simp) z.sy (mem_opt.2 ⟨e.symm, hbq⟩) rfl
  have hcw := hW.trans' hc (fun x hx => .inr (by rw [List.mem_singleton.1 hx]; exact hsW))
  have hold : ∀ k ∈ [z.sy, z.q, z.g, z.b] ++ opt z.q z.be, k < w.heap.size := by
    intro k hk
    simp only [List.mem_append, List.mem_cons, List.not_mem_nil, or_false, mem_opt] at hk
    rcases hk with (h | h | h | h) | h
    · omega
    · omega
    · omega
    · omega
    · omega
  refine ⟨po, en, L, ⟨hcw, by rw [h1, he], h6, ⟨hcw, hm.2.1.keep hc (by simp; exact fun e => n1.1.1 e.symm) (by simpa using n2), hm.2.2.1.keep hc (by simp; exact fun e => n1.1.2.1 e.symm) (by simp; exact fun e => n1.1.2.2 e.symm), hm.2.2.2⟩, h2, h3, h4, by simp, h5, ?_, ?_⟩, hp, hc, hmem⟩
  · have e1 : ({ z with po := po, en := en } : Lay).all L = [z.sy, z.q, z.g, z.b] ++ ([po, en] ++ (opt z.q z.be ++ feet po L)) := by
      unfold Lay.all Lay.base; simp
    have e2 : ([z.sy, z.q, z.g, z.b] ++ ([po, en] ++ (opt z.q z.be ++ feet po L))).Perm (([z.sy, z.q, z.g, z.b] ++ opt z.q z.be) ++ (po :: en :: feet po L)) := by
      rw [List.append_assoc]
      refine List.Perm.append_left _ ?_
      rw [← List.append_assoc]
      refine (List.Perm.append_right _ List.perm_append_comm).trans ?_
      rw [List.append_assoc]
      rfl
    rw [e1, e2.nodup_iff, List.nodup_append]
    refine ⟨hd, hn, fun a ha b hb e => ?_⟩
    have := hold a ha
    have := hl b hb
    omega
  · intro k hk
    rcases hmem k hk with h | h
    · have hn2 := hm.2.2.2.2
      simp only [List.mem_append, List.mem_cons, List.not_mem_nil, or_false, mem_opt] at h
      rcases h with (h | h | h | h) | h
      · omega
      · omega
      · omega
      · omega
      · omega
    · omega
section
variable {W : World} {c : Cg} {z : Lay} {L : List (Po × Pt)} {en : List En} {es : List Ent} {xs : List Int}
end
end Go.Proofs.YtadeoflkppiflaaGreatDoor
end
section
namespace Go.Proofs.YtadeoflkppiflaaGreatDoor
open Go.RowKit
set_option linter.unusedVariables false
set_option maxRecDepth 100000

theorem wdwithin_yes (n a b : Int) (w : World) (h0 : a ≤ n) (h1 : n ≤ b) : Calls Tryz.prog 95 #[.int .i64 n, .int .i64 a, .int .i64 b] w fun e w' => e = .returned (.bool true) ∧ w = w' := by
  go_enter Tryz.func95, Tryz.ntmps95
  go_wp2
  go_ret
  exact ⟨rfl, rfl⟩
theorem wdwithin_no (n a b : Int) (w : World) (h0 : ¬ (a ≤ n ∧ n ≤ b)) : Calls Tryz.prog 95 #[.int .i64 n, .int .i64 a, .int .i64 b] w fun e w' => e = .returned (.bool false) ∧ w = w' := by
  by_cases h : a ≤ n
  · have h7 : decide (n ≤ b) = false := by simp; omega
    clear h0
    go_enter Tryz.func95, Tryz.ntmps95
    go_wp2
    go_ret
    exact ⟨rfl, rfl⟩
  · have h7 : decide (a ≤ n) = false := by simp; omega
    clear h0
    go_enter Tryz.func95, Tryz.ntmps95
    go_wp2
    go_ret
    exact ⟨rfl, rfl⟩

end Go.Proofs.YtadeoflkppiflaaGreatDoor
end
section
namespace Go.Proofs.YtadeoflkppiflaaGreatDoor
open Go.RowKit
set_option linter.unusedVariables false
set_option maxRecDepth 100000

theorem sets_yes (n : Int) (w : World) (h : n = 1 ∨ n = 2 ∨ n = 4 ∨ n = 8) : Calls Tryz.prog 96 #[.int .i64 n] w fun e w' => e = .returned (.bool true) ∧ w = w' := by
  obtain rfl | rfl | rfl | rfl := h
  all_goals
    go_enter Tryz.func96, Tryz.ntmps96
    go_wp2
    go_ret
    exact ⟨rfl, rfl⟩
theorem sets_no (n : Int) (w : World) (h : ¬ (n = 1 ∨ n = 2 ∨ n = 4 ∨ n = 8)) : Calls Tryz.prog 96 #[.int .i64 n] w fun e w' => e = .returned (.bool false) ∧ w = w' := by
  have e1 : (n == 1) = false := by simp; omega
  have e2 : (n == 2) = false := by simp; omega
  have e3 : (n == 4) = false := by simp; omega
  have e4 : (n == 8) = false := by simp; omega
  clear h
  go_enter Tryz.func96, Tryz.ntmps96
  go_wp2
  go_ret
  exact ⟨rfl, rfl⟩

theorem good_0 (c0 c1 c2 c3 c4 c5 c6 : Int) (w : World) (h : ¬ (1 ≤ c0 ∧ c0 ≤ 8)) : Calls Tryz.prog 38 #[.agg #[.int .i64 c0, .int .i64 c1, .int .i64 c2, .int .i64 c3, .int .i64 c4, .int .i64 c5, .int .i64 c6]] w fun e w' => e = .returned (.bool false) ∧ w' = w.alloc (.cells #[.int .i64 c0, .int .i64 c1, .int .i64 c2, .int .i64 c3, .int .i64 c4, .int .i64 c5, .int .i64 c6] 23) := by
  have H := Lib.hid h
  clear h
  go_enter Tryz.func38, Tryz.ntmps38
  go_wp2_with (first
      | (go_at_call_of 95 (Value.int .i64 c0); refine (wdwithin_no _ _ _ _ H.out).mono ?_; rintro e w' ⟨rfl, rfl⟩))
  go_ret
  exact ⟨rfl, rfl⟩
theorem good_1 (c0 c1 c2 c3 c4 c5 c6 : Int) (w : World) (p0 : 1 ≤ c0) (q0 : c0 ≤ 8) (h : ¬ (2 ≤ c1 ∧ c1 ≤ 64)) : Calls Tryz.prog 38 #[.agg #[.int .i64 c0, .int .i64 c1, .int .i64 c2, .int .i64 c3, .int .i64 c4, .int .i64 c5, .int .i64 c6]] w fun e w' => e = .returned (.bool false) ∧ w' = w.alloc (.cells #[.int .i64 c0, .int .i64 c1, .int .i64 c2, .int .i64 c3, .int .i64 c4, .int .i64 c5, .int .i64 c6] 23) := by
  have H := Lib.hid h
  clear h
  go_enter Tryz.func38, Tryz.ntmps38
  go_wp2_with (first
      | (go_at_call_of 95 (Value.int .i64 c0); refine (wdwithin_yes _ _ _ _ p0 q0).mono ?_; rintro e w' ⟨rfl, rfl⟩)
      | (go_at_call_of 95 (Value.int .i64 c1); refine (wdwithin_no _ _ _ _ H.out).mono ?_; rintro e w' ⟨rfl, rfl⟩))
  go_ret
  exact ⟨rfl, rfl⟩
theorem good_2 (c0 c1 c2 c3 c4 c5 c6 : Int) (w : World) (p0 : 1 ≤ c0) (q0 : c0 ≤ 8) (p1 : 2 ≤ c1) (q1 : c1 ≤ 64) (h : ¬ (1 ≤ c2 ∧ c2 ≤ c1 - 1)) : Calls Tryz.prog 38 #[.agg #[.int .i64 c0, .int .i64 c1, .int .i64 c2, .int .i64 c3, .int .i64 c4, .int .i64 c5, .int .i64 c6]] w fun e w' => e = .returned (.bool false) ∧ w' = w.alloc (.cells #[.int .i64 c0, .int .i64 c1, .int .i64 c2, .int .i64 c3, .int .i64 c4, .int .i64 c5, .int .i64 c6] 23) := by
  have H := Lib.hid h
  clear h
  go_enter Tryz.func38, Tryz.ntmps38
  go_wp2_with (first
      | (go_at_call_of 95 (Value.int .i64 c0); refine (wdwithin_yes _ _ _ _ p0 q0).mono ?_; rintro e w' ⟨rfl, rfl⟩)
      | (go_at_call_of 95 (Value.int .i64 c1); refine (wdwithin_yes _ _ _ _ p1 q1).mono ?_; rintro e w' ⟨rfl, rfl⟩)
      | (go_at_call_of 95 (Value.int .i64 c2); refine (wdwithin_no _ _ _ _ H.out).mono ?_; rintro e w' ⟨rfl, rfl⟩))
  go_ret
  exact ⟨rfl, rfl⟩
theorem good_3 (c0 c1 c2 c3 c4 c5 c6 : Int) (w : World) (p0 : 1 ≤ c0) (q0 : c0 ≤ 8) (p1 : 2 ≤ c1) (q1 : c1 ≤ 64) (p2 : 1 ≤ c2) (q2 : c2 ≤ c1 - 1) (h : ¬ (c3 = 1 ∨ c3 = 2 ∨ c3 = 4 ∨ c3 = 8)) : Calls Tryz.prog 38 #[.agg #[.int .i64 c0, .int .i64 c1, .int .i64 c2, .int .i64 c3, .int .i64 c4, .int .i64 c5, .int .i64 c6]] w fun e w' => e = .returned (.bool false) ∧ w' = w.alloc (.cells #[.int .i64 c0, .int .i64 c1, .int .i64 c2, .int .i64 c3, .int .i64 c4, .int .i64 c5, .int .i64 c6] 23) := by
  have H := Lib.hid h
  clear h
  go_enter Tryz.func38, Tryz.ntmps38
  go_wp2_with (first
      | (go_at_call_of 95 (Value.int .i64 c0); refine (wdwithin_yes _ _ _ _ p0 q0).mono ?_; rintro e w' ⟨rfl, rfl⟩)
      | (go_at_call_of 95 (Value.int .i64 c1); refine (wdwithin_yes _ _ _ _ p1 q1).mono ?_; rintro e w' ⟨rfl, rfl⟩)
      | (go_at_call_of 95 (Value.int .i64 c2); refine (wdwithin_yes _ _ _ _ p2 q2).mono ?_; rintro e w' ⟨rfl, rfl⟩)
      | (go_at_call 96; refine (sets_no _ _ H.out).mono ?_; rintro e w' ⟨rfl, rfl⟩))
  go_ret
  exact ⟨rfl, rfl⟩
theorem good_4 (c0 c1 c2 c3 c4 c5 c6 : Int) (w : World) (p0 : 1 ≤ c0) (q0 : c0 ≤ 8) (p1 : 2 ≤ c1) (q1 : c1 ≤ 64) (p2 : 1 ≤ c2) (q2 : c2 ≤ c1 - 1) (s : c3 = 1 ∨ c3 = 2 ∨ c3 = 4 ∨ c3 = 8) (h : ¬ (1 ≤ c4 ∧ c4 ≤ 8)) : Calls Tryz.prog 38 #[.agg #[.int .i64 c0, .int .i64 c1, .int .i64 c2, .int .i64 c3, .int .i64 c4, .int .i64 c5, .int .i64 c6]] w fun e w' => e = .returned (.bool false) ∧ w' = w.alloc (.cells #[.int .i64 c0, .int .i64 c1, .int .i64 c2, .int .i64 c3, .int .i64 c4, .int .i64 c5, .int .i64 c6] 23) := by
  have H := Lib.hid h
  clear h
  have S := Lib.hid s
  clear s
  go_enter Tryz.func38, Tryz.ntmps38
  go_wp2_with (first
      | (go_at_call_of 95 (Value.int .i64 c0); refine (wdwithin_yes _ _ _ _ p0 q0).mono ?_; rintro e w' ⟨rfl, rfl⟩)
      | (go_at_call_of 95 (Value.int .i64 c1); refine (wdwithin_yes _ _ _ _ p1 q1).mono ?_; rintro e w' ⟨rfl, rfl⟩)
      | (go_at_call_of 95 (Value.int .i64 c2); refine (wdwithin_yes _ _ _ _ p2 q2).mono ?_; rintro e w' ⟨rfl, rfl⟩)
      | (go_at_call 96; refine (sets_yes _ _ S.out).mono ?_; rintro e w' ⟨rfl, rfl⟩)
      | (go_at_call_of 95 (Value.int .i64 c4); refine (wdwithin_no _ _ _ _ H.out).mono ?_; rintro e w' ⟨rfl, rfl⟩))
  go_ret
  exact ⟨rfl, rfl⟩
theorem good_5 (c0 c1 c2 c3 c4 c5 c6 : Int) (w : World) (p0 : 1 ≤ c0) (q0 : c0 ≤ 8) (p1 : 2 ≤ c1) (q1 : c1 ≤ 64) (p2 : 1 ≤ c2) (q2 : c2 ≤ c1 - 1) (s : c3 = 1 ∨ c3 = 2 ∨ c3 = 4 ∨ c3 = 8) (p4 : 1 ≤ c4) (q4 : c4 ≤ 8) (h : ¬ (1 ≤ c5 ∧ c5 ≤ 16)) : Calls Tryz.prog 38 #[.agg #[.int .i64 c0, .int .i64 c1, .int .i64 c2, .int .i64 c3, .int .i64 c4, .int .i64 c5, .int .i64 c6]] w fun e w' => e = .returned (.bool false) ∧ w' = w.alloc (.cells #[.int .i64 c0, .int .i64 c1, .int .i64 c2, .int .i64 c3, .int .i64 c4, .int .i64 c5, .int .i64 c6] 23) := by
  have H := Lib.hid h
  clear h
  have S := Lib.hid s
  clear s
  go_enter Tryz.func38, Tryz.ntmps38
  go_wp2_with (first
      | (go_at_call_of 95 (Value.int .i64 c0); refine (wdwithin_yes _ _ _ _ p0 q0).mono ?_; rintro e w' ⟨rfl, rfl⟩)
      | (go_at_call_of 95 (Value.int .i64 c1); refine (wdwithin_yes _ _ _ _ p1 q1).mono ?_; rintro e w' ⟨rfl, rfl⟩)
      | (go_at_call_of 95 (Value.int .i64 c2); refine (wdwithin_yes _ _ _ _ p2 q2).mono ?_; rintro e w' ⟨rfl, rfl⟩)
      | (go_at_call 96; refine (sets_yes _ _ S.out).mono ?_; rintro e w' ⟨rfl, rfl⟩)
      | (go_at_call_of 95 (Value.int .i64 c4); refine (wdwithin_yes _ _ _ _ p4 q4).mono ?_; rintro e w' ⟨rfl, rfl⟩)
      | (go_at_call_of 95 (Value.int .i64 c5); refine (wdwithin_no _ _ _ _ H.out).mono ?_; rintro e w' ⟨rfl, rfl⟩))
  go_ret
  exact ⟨rfl, rfl⟩
theorem good_6 (c0 c1 c2 c3 c4 c5 c6 : Int) (w : World) (p0 : 1 ≤ c0) (q0 : c0 ≤ 8) (p1 : 2 ≤ c1) (q1 : c1 ≤ 64) (p2 : 1 ≤ c2) (q2 : c2 ≤ c1 - 1) (s : c3 = 1 ∨ c3 = 2 ∨ c3 = 4 ∨ c3 = 8) (p4 : 1 ≤ c4) (q4 : c4 ≤ 8) (p5 : 1 ≤ c5) (q5 : c5 ≤ 16) (h : ¬ (1 ≤ c6 ∧ c6 ≤ 16)) : Calls Tryz.prog 38 #[.agg #[.int .i64 c0, .int .i64 c1, .int .i64 c2, .int .i64 c3, .int .i64 c4, .int .i64 c5, .int .i64 c6]] w fun e w' => e = .returned (.bool false) ∧ w' = w.alloc (.cells #[.int .i64 c0, .int .i64 c1, .int .i64 c2, .int .i64 c3, .int .i64 c4, .int .i64 c5, .int .i64 c6] 23) := by
  have H := Lib.hid h
  clear h
  have S := Lib.hid s
  clear s
  go_enter Tryz.func38, Tryz.ntmps38
  go_wp2_with (first
      | (go_at_call_of 95 (Value.int .i64 c0); refine (wdwithin_yes _ _ _ _ p0 q0).mono ?_; rintro e w' ⟨rfl, rfl⟩)
      | (go_at_call_of 95 (Value.int .i64 c1); refine (wdwithin_yes _ _ _ _ p1 q1).mono ?_; rintro e w' ⟨rfl, rfl⟩)
      | (go_at_call_of 95 (Value.int .i64 c2); refine (wdwithin_yes _ _ _ _ p2 q2).mono ?_; rintro e w' ⟨rfl, rfl⟩)
      | (go_at_call 96; refine (sets_yes _ _ S.out).mono ?_; rintro e w' ⟨rfl, rfl⟩)
      | (go_at_call_of 95 (Value.int .i64 c4); refine (wdwithin_yes _ _ _ _ p4 q4).mono ?_; rintro e w' ⟨rfl, rfl⟩)
      | (go_at_call_of 95 (Value.int .i64 c5); refine (wdwithin_yes _ _ _ _ p5 q5).mono ?_; rintro e w' ⟨rfl, rfl⟩)
      | (go_at_call_of 95 (Value.int .i64 c6); refine (wdwithin_no _ _ _ _ H.out).mono ?_; rintro e w' ⟨rfl, rfl⟩))
  go_ret
  exact ⟨rfl, rfl⟩
theorem good_7 (c0 c1 c2 c3 c4 c5 c6 : Int) (w : World) (p0 : 1 ≤ c0) (q0 : c0 ≤ 8) (p1 : 2 ≤ c1) (q1 : c1 ≤ 64) (p2 : 1 ≤ c2) (q2 : c2 ≤ c1 - 1) (s : c3 = 1 ∨ c3 = 2 ∨ c3 = 4 ∨ c3 = 8) (p4 : 1 ≤ c4) (q4 : c4 ≤ 8) (p5 : 1 ≤ c5) (q5 : c5 ≤ 16) (p6 : 1 ≤ c6) (q6 : c6 ≤ 16) : Calls Tryz.prog 38 #[.agg #[.int .i64 c0, .int .i64 c1, .int .i64 c2, .int .i64 c3, .int .i64 c4, .int .i64 c5, .int .i64 c6]] w fun e w' => e = .returned (.bool true) ∧ w' = w.alloc (.cells #[.int .i64 c0, .int .i64 c1, .int .i64 c2, .int .i64 c3, .int .i64 c4, .int .i64 c5, .int .i64 c6] 23) := by
  have S := Lib.hid s
  clear s
  go_enter Tryz.func38, Tryz.ntmps38
  go_wp2_with (first
      | (go_at_call_of 95 (Value.int .i64 c0); refine (wdwithin_yes _ _ _ _ p0 q0).mono ?_; rintro e w' ⟨rfl, rfl⟩)
      | (go_at_call_of 95 (Value.int .i64 c1); refine (wdwithin_yes _ _ _ _ p1 q1).mono ?_; rintro e w' ⟨rfl, rfl⟩)
      | (go_at_call_of 95 (Value.int .i64 c2); refine (wdwithin_yes _ _ _ _ p2 q2).mono ?_; rintro e w' ⟨rfl, rfl⟩)
      | (go_at_call 96; refine (sets_yes _ _ S.out).mono ?_; rintro e w' ⟨rfl, rfl⟩)
      | (go_at_call_of 95 (Value.int .i64 c4); refine (wdwithin_yes _ _ _ _ p4 q4).mono ?_; rintro e w' ⟨rfl, rfl⟩)
      | (go_at_call_of 95 (Value.int .i64 c5); refine (wdwithin_yes _ _ _ _ p5 q5).mono ?_; rintro e w' ⟨rfl, rfl⟩)
      | (go_at_call_of 95 (Value.int .i64 c6); refine (wdwithin_yes _ _ _ _ p6 q6).mono ?_; rintro e w' ⟨rfl, rfl⟩))
  go_ret
  exact ⟨rfl, rfl⟩
/-- Is a configuration good? -/
def goodB (c0 c1 c2 c3 c4 c5 c6 : Int) : Bool := decide (1 ≤ c0 ∧ c0 ≤ 8 ∧ 2 ≤ c1 ∧ c1 ≤ 64 ∧ 1 ≤ c2 ∧ c2 ≤ c1 - 1 ∧ (c3 = 1 ∨ c3 = 2 ∨ c3 = 4 ∨ c3 = 8) ∧ 1 ≤ c4 ∧ c4 ≤ 8 ∧ 1 ≤ c5 ∧ c5 ≤ 16 ∧ 1 ≤ c6 ∧ c6 ≤ 16)
theorem good_any (c0 c1 c2 c3 c4 c5 c6 : Int) (w : World) : Calls Tryz.prog 38 #[.agg #[.int .i64 c0, .int .i64 c1, .int .i64 c2, .int .i64 c3, .int .i64 c4, .int .i64 c5, .int .i64 c6]] w fun e w' => e = .returned (.bool (goodB c0 c1 c2 c3 c4 c5 c6)) ∧ w' = w.alloc (.cells #[.int .i64 c0, .int .i64 c1, .int .i64 c2, .int .i64 c3, .int .i64 c4, .int .i64 c5, .int .i64 c6] 23) := by
  by_cases h0 : 1 ≤ c0 ∧ c0 ≤ 8
  rotate_left
  · have e : goodB c0 c1 c2 c3 c4 c5 c6 = false := by unfold goodB; simp only [decide_eq_false_iff_not]; omega
    rw [e]; exact good_0 c0 c1 c2 c3 c4 c5 c6 w h0
  by_cases h1 : 2 ≤ c1 ∧ c1 ≤ 64
  rotate_left
  · have e : goodB c0 c1 c2 c3 c4 c5 c6 = false := by unfold goodB; simp only [decide_eq_false_iff_not]; omega
    rw [e]; exact good_1 c0 c1 c2 c3 c4 c5 c6 w h0.1 h0.2 h1
  by_cases h2 : 1 ≤ c2 ∧ c2 ≤ c1 - 1
  rotate_left
  · have e : goodB c0 c1 c2 c3 c4 c5 c6 = false := by unfold goodB; simp only [decide_eq_false_iff_not]; omega
    rw [e]; exact good_2 c0 c1 c2 c3 c4 c5 c6 w h0.1 h0.2 h1.1 h1.2 h2
  by_cases h3 : c3 = 1 ∨ c3 = 2 ∨ c3 = 4 ∨ c3 = 8
  rotate_left
  · have e : goodB c0 c1 c2 c3 c4 c5 c6 = false := by unfold goodB; simp only [decide_eq_false_iff_not]; omega
    rw [e]; exact good_3 c0 c1 c2 c3 c4 c5 c6 w h0.1 h0.2 h1.1 h1.2 h2.1 h2.2 h3
  by_cases h4 : 1 ≤ c4 ∧ c4 ≤ 8
  rotate_left
  · have e : goodB c0 c1 c2 c3 c4 c5 c6 = false := by unfold goodB; simp only [decide_eq_false_iff_not]; omega
    rw [e]; exact good_4 c0 c1 c2 c3 c4 c5 c6 w h0.1 h0.2 h1.1 h1.2 h2.1 h2.2 h3 h4
  by_cases h5 : 1 ≤ c5 ∧ c5 ≤ 16
  rotate_left
  · have e : goodB c0 c1 c2 c3 c4 c5 c6 = false := by unfold goodB; simp only [decide_eq_false_iff_not]; omega
    rw [e]; exact good_5 c0 c1 c2 c3 c4 c5 c6 w h0.1 h0.2 h1.1 h1.2 h2.1 h2.2 h3 h4.1 h4.2 h5
  by_cases h6 : 1 ≤ c6 ∧ c6 ≤ 16
  rotate_left
  · have e : goodB c0 c1 c2 c3 c4 c5 c6 = false := by unfold goodB; simp only [decide_eq_false_iff_not]; omega
    rw [e]; exact good_6 c0 c1 c2 c3 c4 c5 c6 w h0.1 h0.2 h1.1 h1.2 h2.1 h2.2 h3 h4.1 h4.2 h5.1 h5.2 h6
  have e : goodB c0 c1 c2 c3 c4 c5 c6 = true := by unfold goodB; simp only [decide_eq_true_eq]; omega
  rw [e]; exact good_7 c0 c1 c2 c3 c4 c5 c6 w h0.1 h0.2 h1.1 h1.2 h2.1 h2.2 h3 h4.1 h4.2 h5.1 h5.2 h6.1 h6.2
end Go.Proofs.YtadeoflkppiflaaGreatDoor
end
section
namespace Go.Proofs.YtadeoflkppiflaaGreatDoor
open Go.RowKit
set_option linter.unusedVariables false
set_option maxHeartbeats 1000000
set_option maxRecDepth 100000
attribute [local go_sem ↓] append_appS copy_copS clear_clrS make_mkS cell_row frozen_row loadLine storeLine loadSlot storeSlot heap_drew heap_drewN heap_alloc heap_past heap_setCell heap_putRow vs_get slc_st slc_li slc_us slice_slS loadMsg storeMsg loadHas storeHas msc_kd msc_li msc_di msc_ke
attribute [local go_sem] rowCell_some rowFrozen_some rowHas_some rowIn_some rowPart_full rowPart_lit rowPut_full rowPut_lit rowSet_some size_putRow vs_size vs_one wideLine wideSlot run_loadS run_storeS run_appS run_copS run_clrS run_mkS loadW_at storeW_at fit_all fit_le one_int one_bool one_pointer one_slice allOne_list putRow_new ne_size1 ne_size2 ne_size3 ne_size4 zero8_length lines_nil line_eq lit8 slc_size slc_one slc_part slc_in fold_slt fold_slc slc_set_us wideMsg wideHas run_slS msc_size msc_one msc_part msc_in fold_msc msc_putDi msc_putKe msc_putX msc_has ms4_lit
attribute [local simp ↓] heap_drew heap_drewN heap_alloc heap_past heap_setCell heap_putRow
attribute [local simp] rowCell_some rowFrozen_some rowHas_some rowIn_some rowPart_full rowPart_lit rowPut_full rowPut_lit rowSet_some size_putRow vs_size fit_all putRow_new ne_size1 ne_size2 ne_size3 ne_size4 zero8_length slc_size msc_size msc_putDi msc_putKe msc_putX msc_has fit_le
attribute [local go_sem ↓] ec_he ec_di ec_ow ec_sh ec_bu ec_by ec_wa sc_to
attribute [local go_sem] mi_and mi_or mi_not mi_beq0 mi_bne0 ec_size ec_one ec_part ec_in ec_has ec_setDi ec_setOw ec_setSh ec_setBu ec_setBy ec_setWa ec_setSh0 ec_setWa0 ec_putM sc_size sc_one sc_part sc_in
attribute [local simp] ec_size sc_size ec_setDi ec_setOw ec_setSh ec_setBu ec_setBy ec_setWa ec_setSh0 ec_setWa0 ec_putM
attribute [local go_sem ↓] loadEn storeEn loadSd storeSd en_z0
attribute [local go_sem] wideEn wideSd fold_sc size11 putRow_newB putRow_newC ms5_lit
attribute [local simp] en_z0 putRow_newB putRow_newC fit_le ec_has



attribute [local go_sem ↓] mlitZ zenc_po zenc_en zenc_q
attribute [local simp] mlitZ

def Cg.cells (c : Cg) : Array Value := #[.int .i64 c.co, .int .i64 c.li, .int .i64 c.vo, .int .i64 c.se, .int .i64 c.wa, .int .i64 c.qu, .int .i64 c.st]
/-- A system that was made. -/
def MadeSys (W w : World) (c : Cg) (xs : List Int) : Ending → World → Prop := fun e w' => ∃ z L, e = .returned (.tuple #[.pointer (some ⟨z.sy, 0, none⟩), .int .i64 0]) ∧ Msd W w' c z L (List.replicate c.li enE) [] xs ∧ ports L = List.replicate c.co (pt0 c) ∧ Chg [] w w' ∧ ∀ k ∈ z.all L, w.heap.size ≤ k
theorem good_ok (c : Cg) (hc : c.Ok) : goodB c.co c.li c.vo c.se c.wa c.qu c.st = true := by
  obtain ⟨h1, h2, h3, h4, h5, h6, h7, h8, h9, h10, h11⟩ := hc
  unfold goodNew at h7
  unfold goodB
  apply decide_eq_true
  omega
theorem zgood_at (c : Cg) (hc : c.Ok) (w : World) : Calls Tryz.prog 38 #[.agg c.cells] w fun e w' => e = .returned (.bool true) ∧ Chg [] w w' :=
  (good_any c.co c.li c.vo c.se c.wa c.qu c.st w).mono fun e w' ⟨he, hw⟩ => ⟨by rw [he, good_ok c hc], by subst hw; exact (Chg.refl [] w).alloc _⟩
theorem cg_size (c : Cg) : c.cells.size = 7 := rfl
theorem cg_one (c : Cg) : allOne c.cells := allOne_list _ rfl
theorem cg_li (c : Cg) : c.cells[1]? = some (.int .i64 c.li) := rfl
theorem cg_vo (c : Cg) : c.cells[2]? = some (.int .i64 c.vo) := rfl
theorem cg_qu (c : Cg) : c.cells[5]? = some (.int .i64 c.qu) := rfl
/-- A system's cells ahead of its ports and entries. -/
def sysZ (c : Cg) (q : Option Nat) : Array Value := (c.enc ++ ([.pointer (q.map fun k => ⟨k, 0, none⟩), .slice none 0 0, .slice none 0 0] : List Value) ++ List.replicate 6 (Value.int .u64 0)).toArray
theorem fold_cg0 (c : Cg) : Array.foldl (fun cs y => cs.setIfInBounds (0 + y.snd) y.fst) (#[.int .i64 0, .int .i64 0, .int .i64 0, .int .i64 0, .int .i64 0, .int .i64 0, .int .i64 0, .pointer none, .slice none 0 0, .slice none 0 0, .int .u64 0, .int .u64 0, .int .u64 0, .int .u64 0, .int .u64 0, .int .u64 0] : Array Value) c.cells.zipIdx 0 7 = sysZ c none := by
  rw [fold_put _ _ 0 7 rfl (by simp)]
  simp [splice, sysZ, Cg.cells, Cg.enc]
theorem fold_cg (c : Cg) : Array.foldl (fun cs y => cs.setIfInBounds y.snd y.fst) (#[.int .i64 0, .int .i64 0, .int .i64 0, .int .i64 0, .int .i64 0, .int .i64 0, .int .i64 0, .pointer none, .slice none 0 0, .slice none 0 0, .int .u64 0, .int .u64 0, .int .u64 0, .int .u64 0, .int .u64 0, .int .u64 0] : Array Value) c.cells.zipIdx 0 7 = sysZ c none := by
  have := fold_cg0 c
  simp only [Nat.zero_add] at this
  exact this
theorem sysZ_put (c : Cg) (q : Nat) : (sysZ c none).setIfInBounds 7 (.pointer (some ⟨q, 0, none⟩)) = sysZ c (some q) := rfl
theorem sysZ_size (c : Cg) (q : Option Nat) : (sysZ c q).size = 16 := rfl
theorem sysZ_enc (c : Cg) (q : Nat) : ∀ z : Lay, z.q = q → z.ks = List.replicate 6 0 → ((sysZ c (some q)).setIfInBounds 8 (.slice (some ⟨z.po, 0, none⟩) c.co c.co)).setIfInBounds 9 (.slice (some ⟨z.en, 0, none⟩) c.li c.li) = (z.enc c).toArray := by
  rintro z rfl h
  unfold Lay.enc sysZ
  rw [h]
  rfl
attribute [local go_sem] fold_cg fold_cg0 sysZ_put sysZ_size
theorem wideCg : Wide Tryz.prog 23 7 := ⟨⟨_, Tryz.underlying23, by rfl⟩, by kernel_rfl⟩
theorem loadCg (x : Value) : Instr.loadAt 23 x = loadS 23 7 x := rfl
attribute [local go_sem ↓] loadCg cg_li cg_vo cg_qu
theorem cg_part (c : Cg) (t : TypeId) (f : Nat × Nat) : rowPart (some (.cells c.cells t f)) 0 7 = c.cells := rowPart_full _ _ _ _ rfl
attribute [local go_sem] wideCg cg_size cg_one cg_part
theorem znew_none (W w : World) (c : Cg) (hc : c.Ok) (hW : Chg [] W w) (A : Option Addr) (nc : Nat) : Calls Tryz.prog 12 #[.agg c.cells, .slice A 0 nc] w (MadeSys W w c (List.replicate (c.li * 8) 0)) := by
  have HC := Lib.hid hc
  have HW := Lib.hid hW
  clear hc hW
  go_enter Tryz.func12, Tryz.ntmps12
  try dsimp only [List.append]
  go_wp2_with fail
  have r1 : (w.alloc (.cells c.cells 23)).heap[w.heap.size]? = some (.cells c.cells 23 (0, 0)) := by simp
  have C1 := Lib.hid ((Chg.refl [] w).alloc (.cells c.cells 23))
  refine (zgood_at c HC.out _).mono ?_
  rintro e w2 ⟨rfl, c2⟩
  replace r1 := c2.keep r1 List.not_mem_nil
  have o1 := old r1
  have C2 := Lib.hid (C1.out.trans c2)
  clear C1 c2
  generalize w.heap.size = b1 at r1 o1 ⊢
  go_wp2_with fail
  refine (new_ok c.li c.vo w2 HC.out.li2 HC.out.li64 HC.out.vo1 HC.out.vol).mono ?_
  rintro e w3 ⟨rfl, c3, hdev, hsz⟩
  replace r1 := c3.keep r1 List.not_mem_nil
  replace o1 := old r1
  have C3 := Lib.hid (C2.out.trans c3)
  have HD := Lib.hid hdev
  have HL := Lib.hid C2.out.size
  have HGB := Lib.hid (show w.heap.size ≤ w2.heap.size + 1 ∧ w.heap.size ≤ w2.heap.size from ⟨by have := C2.out.size; omega, C2.out.size⟩)
  generalize w2.heap.size + 1 = g at HD HGB ⊢
  generalize w2.heap.size = b at HD HL HGB
  clear c3 hsz
  have HG := Lib.hid (show w.heap.size ≤ g ∧ w.heap.size ≤ b from HGB.out)
  go_wp2_with fail
  refine (wsys_new W c.li c.vo c.qu w3 g b _ (HW.out.trans C3.out) HD.out (Nat.le_trans HW.out.size HG.out.1) (Nat.le_trans HW.out.size HG.out.2) HC.out.qu1 HC.out.qu16).mono ?_
  rintro e w4 ⟨q, rfl, hsys, c4, hq⟩
  replace r1 := c4.keep r1 List.not_mem_nil
  replace o1 := old r1
  have HS4 := Lib.hid hsys
  have HQ := Lib.hid hq
  have C4 := Lib.hid (C3.out.trans c4)
  clear hsys hq c4
  go_upto_region 9 with fail
  have rS : (w4.alloc (.cells (sysZ c (some q)) 95)).heap[w4.heap.size]? = some (.cells (sysZ c (some q)) 95 (0, 0)) := new_blk _ _
  have K5 := Lib.hid ((Chg.refl [] w4).alloc (.cells (sysZ c (some q)) 95))
  have NS := Lib.hid (Nat.le_refl w4.heap.size)
  have NQ := Lib.hid (show q < w4.heap.size ∧ g < w4.heap.size ∧ b < w4.heap.size from ⟨HS4.out.2.1.oldq.lt, HS4.out.2.2.1.oldg, HS4.out.2.2.1.oldb⟩)
  have SY0 := Lib.hid C4.out.size
  have HSZ := Lib.hid (show w4.heap.size ≤ (w4.alloc (.cells (sysZ c (some q)) 95)).heap.size by simp)
  generalize w4.heap.size = sy at rS NS NQ SY0 HSZ ⊢
  generalize w4.alloc (.cells (sysZ c (some q)) 95) = w5 at rS K5 HSZ ⊢
  have hf := forget_ok W w5 c HC.out sy (sysZ c (some q)) ((HW.out.trans C4.out).trans K5.out) (Nat.le_trans HW.out.size SY0.out) rS rfl rfl rfl rfl _ _ rfl rfl
  have HF := Lib.hid hf
  have HRS := Lib.hid rS
  clear hf rS r1 o1
  go_wp2_with fail
  refine HF.out.mono ?_
  rintro e w6 ⟨rfl, hfr⟩
  have hS5 := HS4.out.keep K5.out
  have hap := HS4.out.2.2.2.1
  have hgb : g ≠ b := by obtain ⟨_, _, _, _, _, _, _, h⟩ := HS4.out.2.2.1; exact h
  have hnd : ([sy, q, g, b] ++ opt q q).Nodup := by
    have h1 := NQ.out
    obtain ⟨a1, a2, a3, a4⟩ := hap
    simp [opt]
    omega
  obtain ⟨po, en, L, hm, hp, hc6, hk6⟩ := msd_fresh (z := ⟨sy, q, q, g, b, 0, 0, List.replicate 6 0⟩) (fun po en => sysZ_enc c q ⟨sy, q, q, g, b, po, en, List.replicate 6 0⟩ rfl rfl) ((HW.out.trans C4.out).trans K5.out) HRS.out (Nat.le_trans HW.out.size SY0.out) (by simp) hS5 hnd hfr
  have HFIN := Lib.hid (show MadeSys W w c (List.replicate (c.li * 8) 0) (.returned (.tuple #[.pointer (some ⟨sy, 0, none⟩), .int .i64 0])) w6 by
    refine ⟨⟨sy, q, q, g, b, po, en, List.replicate 6 0⟩, L, rfl, hm, hp, ((C4.out.trans K5.out).mono (by simp)).trans' hc6 (fun x hx => .inr (by rw [List.mem_singleton.1 hx]; exact SY0.out)), ?_⟩
    intro k hk
    have h1 := HQ.out
    have h2 := HG.out
    have h3 := C3.out.size
    have h4 := SY0.out
    have h5 := C4.out.size
    have h6 := K5.out.size
    rcases hk6 k hk with h | h
    · simp [opt] at h
      omega
    · have := HSZ.out
      omega)
  clear hfr hm hp hc6 hk6 hnd hS5
  go_wp2_with fail
  go_ret2
  exact HFIN.out
end Go.Proofs.YtadeoflkppiflaaGreatDoor
end
