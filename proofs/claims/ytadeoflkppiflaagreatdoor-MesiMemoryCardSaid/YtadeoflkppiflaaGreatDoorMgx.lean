/- What MesiMemory wants beside. No condition. -/
import Derived.Test.YtadeoflkppiflaaGreatDoorNau
import Derived.BigQuiet
import Derived.Deep.Cut
namespace Go.Proofs.YtadeoflkppiflaaGreatDoor
open Go.RowKit
set_option linter.unusedVariables false
set_option maxHeartbeats 1000000
set_option maxRecDepth 100000
attribute [local go_sem ↓] append_appS copy_copS clear_clrS make_mkS cell_row frozen_row loadLine storeLine loadSlot storeSlot heap_drew heap_drewN heap_alloc heap_past heap_setCell heap_putRow vs_get slc_st slc_li slc_us slice_slS loadMsg storeMsg loadHas storeHas msc_kd msc_li msc_di msc_ke
attribute [local go_sem] rowCell_some rowFrozen_some rowHas_some rowIn_some rowPart_full rowPart_lit rowPut_full rowPut_lit rowSet_some size_putRow vs_size vs_one wideLine wideSlot run_loadS run_storeS run_appS run_copS run_clrS run_mkS loadW_at storeW_at fit_all fit_le one_int one_bool one_pointer one_slice allOne_list putRow_new ne_size1 ne_size2 ne_size3 ne_size4 zero8_length lines_nil line_eq lit8 slc_size slc_one slc_part slc_in fold_slt fold_slc slc_set_us wideMsg wideHas run_slS msc_size msc_one msc_part msc_in fold_msc msc_putDi msc_putKe msc_putX msc_has ms4_lit
attribute [local simp ↓] heap_drew heap_drewN heap_alloc heap_past heap_setCell heap_putRow
attribute [local simp] rowCell_some rowFrozen_some rowHas_some rowIn_some rowPart_full rowPart_lit rowPut_full rowPut_lit rowSet_some size_putRow vs_size fit_all putRow_new ne_size1 ne_size2 ne_size3 ne_size4 zero8_length slc_size msc_size msc_putDi msc_putKe msc_putX msc_has fit_le
attribute [local go_sem ↓] ec_he ec_di ec_ow ec_sh ec_bu ec_by ec_wa sc_to
attribute [local go_sem] mi_and mi_or mi_not mi_beq0 mi_bne0 ec_size ec_one ec_part ec_in ec_has ec_setDi ec_setOw ec_setSh ec_setBu ec_setBy ec_setWa ec_setSh0 ec_setWa0 ec_putM sc_size sc_one sc_part sc_in
attribute [local simp] ec_size sc_size ec_setDi ec_setOw ec_setSh ec_setBu ec_setBy ec_setWa ec_setSh0 ec_setWa0 ec_putM
attribute [local go_sem ↓] loadEn storeEn loadSd storeSd en_z0
attribute [local go_sem] wideEn wideSd fold_sc size11 putRow_newB putRow_newC ms5_lit
attribute [local simp] en_z0 putRow_newB putRow_newC fit_le ec_has

section
variable {P : Program} {t ty e : TypeId} {i : TypeInfo} {z : Value}
theorem run_copy_row_all (ht : P.underlying t = some (.slice e)) (hi : P.info? e = some i) (w : World) (b : Nat) (A : Option Addr) (n c d : Nat) (xs : List Value) (h : Sl w i.size A n xs) (h1 : ∀ v ∈ xs, v.oneCell' = true) (hb : rowHas (w.heap[b]?) 0 xs.length = true) :
    copR P t t ty #[.slice (some ⟨b, 0, none⟩) n d, .slice A n c] w = .ok (goInt n) (putRow w b 0 xs.toArray) := by
  have hf := run_firstCells_sl (P := P) w i.size n A n c xs h
  have hst := run_storeCells_cells (P := P) b 0 xs 0 w ?_ ?_ h1
  · simp only [Nat.add_zero] at hst
    simp [copR, Builtin.copy_, run_underlying ht, Builtin.lenOf, sizeOf, typeInfo, hi, hf, hst, putRow]
  all_goals
    intro j hj
    rw [Nat.add_zero, Nat.zero_add]
    cases e : w.heap[b]? with
    | none => rw [e] at hb; cases hb
    | some x =>
      rw [e] at hb
      cases x with
      | cells c t f =>
        simp [rowHas] at hb
        obtain ⟨hb, rfl⟩ := hb
        have := hb.out
        first
          | (rw [cell_row, e, rowCell_some]; simp; omega)
          | (rw [frozen_row, e, rowFrozen_some])
      | _ => simp [rowHas] at hb
end
theorem bk_one (xs : List Int) : ∀ v ∈ xs.map (Value.int .u64), v.oneCell' = true := by simp [Value.oneCell']
theorem clone_run0 (w : World) (a : Addr) (A : Option Addr) (c : Nat) : appR Tryz.prog 24 24 #[.slice (some a) 0 0, .slice A 0 c] w = .ok (.slice (some a) 0 0) w := by
  obtain ⟨i0, hi0, hz0, hz1, hz2⟩ := info_parts line_info
  exact run_clone0 Tryz.underlying24 hi0 w a A c

theorem clone_run (w : World) (A : Option Addr) (n c : Nat) (xs : List Int) (h : Sl w 8 A n (xs.map (Value.int .u64))) (h0 : 0 < n) (hn : n * 64 ≤ 140737488355328) :
    ∃ (cap : Nat) (r : List Value), n ≤ cap ∧ appR Tryz.prog 24 24 #[.slice (some ⟨w.heap.size, 0, none⟩) 0 0, .slice A n c] (w.alloc (.cells #[] 36)) =
      .ok (.slice (some ⟨w.heap.size + 1, 0, none⟩) n cap) ((w.alloc (.cells #[] 36)).drew.alloc (.cells (bk xs r) 36)) := by
  obtain ⟨i0, hi0, hz0, hz1, hz2⟩ := info_parts line_info
  have hcl := run_clone (P := Tryz.prog) (t := 24) (ty := 24) Tryz.underlying24 hi0 hz0 (w.alloc (.cells #[] 36)) ⟨w.heap.size, 0, none⟩ A n c (xs.map (Value.int .u64)) (by rw [hz1]; exact h.chg ((Chg.refl [] w).alloc _) (by simp)) h0 (by simp only [maxLen]; omega) (by rw [hz2]; exact hn)
  refine ⟨_, (Builtin.zeroCells (Value.agg (vs zero8)).cells (grownCap (w.alloc (.cells #[] 36)) n 0 36 - n)).toList, grownCap_ge (w.alloc (.cells #[] 36)) n 0 36, ?_⟩
  rw [hcl, World.size_alloc]
  rfl
theorem ln_forget_ge (xs : List Int) (v i : Nat) (h : v ≤ i) (hl : v * 8 ≤ xs.length) : ln (forget xs v) i = ln xs i := by
  unfold ln forget
  rw [drop_splice_past _ _ _ _ (by simp; omega) (by simp; omega)]
theorem ln_forget_lt (xs : List Int) (v i : Nat) (h : i < v) (hl : v * 8 ≤ xs.length) : ln (forget xs v) i = [0, 0, 0, 0, 0, 0, 0, 0] := by
  unfold ln forget splice
  simp only [List.take_zero, List.nil_append]
  rw [List.drop_append_of_le_length (by simp; omega), List.drop_replicate, List.take_append_of_le_length (by simp; omega), List.take_replicate, Nat.min_eq_left (by omega)]
  rfl
theorem restore_ok (g b n v : Nat) (xs ys : List Int) (A : Option Addr) (c : Nat) (w : World) (hd : Dev w g b n v xs) (hs : Sl w 8 A n (ys.map (Value.int .u64))) :
    Calls Tryz.prog 40 #[.pointer (some ⟨g, 0, none⟩), .slice A n c] w fun e w' => e = .returned (.int .i64 0) ∧ Chg [b] w w' ∧ Dev w' g b n v ys := by
  obtain ⟨⟨r, wr, hg⟩, hb, hx, hn2, hn, hv, hvn, hgb⟩ := hd
  obtain ⟨i0, hi0, hz0, hz1, hz2⟩ := info_parts line_info
  have hy : ys.length = n * 8 := by simpa using hs.1
  have hcp := run_copy_row_all (P := Tryz.prog) (t := 24) (ty := 3) Tryz.underlying24 hi0 w b A n c n _ (by rw [hz1]; exact hs) (bk_one ys) (by rw [hb, rowHas_some, bk_size, List.length_map, hx, hy]; simp [Fit])
  have HC : Chg [b] w (putRow w b 0 (ys.map (Value.int .u64)).toArray) := (Chg.refl _ _).putRow _ _ _ (.inl (by simp))
  have HD : Dev (putRow w b 0 (ys.map (Value.int .u64)).toArray) g b n v ys := by
    refine ⟨⟨r, wr, HC.keep hg (by simpa using hgb)⟩, ?_, hy, hn2, hn, hv, hvn, hgb⟩
    rw [heap_putRow _ _ _ _ _ (by rw [hb, rowHas_some, bk_size, List.size_toArray, List.length_map, hx, hy]; simp [Fit]), if_pos rfl, hb, rowPut_full _ _ _ _ (by rw [bk_size, List.size_toArray, List.length_map, hx, hy]; rfl)]
    simp [bk]
  generalize putRow w b 0 (ys.map (Value.int .u64)).toArray = w1 at hcp HC HD
  clear hz0 hz1 hz2 hi0 hx hy hs hb
  go_enter Tryz.func40, Tryz.ntmps40
  go_wp2
  go_ret
  exact ⟨rfl, HC, HD⟩

theorem clone_any (w : World) (A : Option Addr) (n c : Nat) (xs : List Int) (h : Sl w 8 A n (xs.map (Value.int .u64))) (hn : n * 64 ≤ 140737488355328) :
    ∃ (g cap : Nat) (r : List Value) (w' : World), appR Tryz.prog 24 24 #[.slice (some ⟨w.heap.size, 0, none⟩) 0 0, .slice A n c] (w.alloc (.cells #[] 36)) = .ok (.slice (some ⟨g, 0, none⟩) n cap) w' ∧
      w'.heap[g]? = some (.cells (bk xs r) 36 (0, 0)) ∧ w.heap.size ≤ g ∧ Chg [] w w' := by
  rcases Nat.eq_zero_or_pos n with h0 | h0
  · subst h0
    have hx : xs = [] := List.eq_nil_of_length_eq_zero (by simpa using h.1)
    subst hx
    exact ⟨w.heap.size, 0, [], _, clone_run0 _ _ A c, by simp [bk], Nat.le_refl _, (Chg.refl _ _).alloc _⟩
  · obtain ⟨cap, r, _, hr⟩ := clone_run w A n c xs h h0 hn
    exact ⟨w.heap.size + 1, cap, r, _, hr, by simp, by omega, ((Chg.refl _ _).alloc _).drew.alloc _⟩
end Go.Proofs.YtadeoflkppiflaaGreatDoor
