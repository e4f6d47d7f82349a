/- Texts of the walk, one behind the other: Rea Reb Rec. No condition. -/
import Derived.Test.YtcjoinhngdfdmaaGreatDoorCNaj
section
namespace Go.Proofs.YtcjoinhngdfdmaaGreatDoor
open Go.RowKit
set_option linter.unusedVariables false
set_option maxHeartbeats 1000000

set_option maxRecDepth 100000
/-! ### The document's letters -/
def letH (op : Int) : List UInt8 := if op = 1 then [65, 73] else if (2 ≤ op ∧ op ≤ 7) ∨ op = 10 ∨ op = 11 then [65, 66, 67] else if op = 8 ∨ op = 9 ∨ (18 ≤ op ∧ op ≤ 20) then [65, 66, 73] else if 12 ≤ op ∧ op ≤ 14 then [66, 73] else if op = 17 then [73] else if op = 21 then [65] else []
theorem rHas (op : Int) (l : List UInt8) (h0 : 0 ≤ op) (h22 : op ≤ 22) (hl : letH op = l) (w : World) : Calls Tryz.prog 169 #[.int .i64 op] w fun e w' => e = .returned (.string ⟨l.toArray⟩) ∧ w = w' := by
  have h : op = 0 ∨ op = 1 ∨ op = 2 ∨ op = 3 ∨ op = 4 ∨ op = 5 ∨ op = 6 ∨ op = 7 ∨ op = 8 ∨ op = 9 ∨ op = 10 ∨ op = 11 ∨ op = 12 ∨ op = 13 ∨ op = 14 ∨ op = 15 ∨ op = 16 ∨ op = 17 ∨ op = 18 ∨ op = 19 ∨ op = 20 ∨ op = 21 ∨ op = 22 := by omega
  clear h0 h22
  rcases h with rfl | rfl | rfl | rfl | rfl | rfl | rfl | rfl | rfl | rfl | rfl | rfl | rfl | rfl | rfl | rfl | rfl | rfl | rfl | rfl | rfl | rfl | rfl
  all_goals
    subst hl
    go_enter Tryz.func169, Tryz.ntmps169
    try dsimp only [List.append]
    go_wp2_with fail
    go_ret
    exact ⟨rfl, rfl⟩
theorem rhas_at (op c : Int) (l : List UInt8) (h0 : 0 ≤ op) (h22 : op ≤ 22) (hl : letH op = l) (hb : l.length ≤ 3) (w : World) : Calls Tryz.prog 122 #[.int .i64 op, .int .u8 c] w fun e w' => e = .returned (.bool (l.any fun b => (b.toNat : Int) == c)) ∧ w = w' := by
  have HH := Lib.hid (fun w => rHas op l h0 h22 hl w)
  clear h0 h22 hl
  go_enter Tryz.func122, Tryz.ntmps122
  go_wp2_with (go_at_call 169; refine (HH.out _).mono ?_; rintro e w' ⟨rfl, rfl⟩)
  go_loop [6] (fun i => ∃ k : Nat, k ≤ l.length ∧ i = .int .i64 k ∧ ∀ j, j < k → ∀ b, l[j]? = some b → ((b.toNat : Int) == c) = false) (fun i => l.length - (intOf i).toNat)
  case atStart => exact ⟨0, by omega, rfl, fun j hj => by omega⟩
  case round =>
    obtain ⟨k, hk, rfl, hall⟩ := hrel
    have HA := Lib.hid hall
    clear hall
    by_cases hlt : k < l.length
    · obtain ⟨b, hbk⟩ : ∃ b, l[k]? = some b := ⟨l[k], List.getElem?_eq_getElem hlt⟩
      have HB := Lib.hid hbk
      have HLT := Lib.hid hlt
      have g1 : (k : Int) < (l.length : Int) := by omega
      have g0 : (0 : Int) ≤ (k : Int) := by omega
      have HE := Lib.hid (show ∀ (h : k < (⟨l.toArray⟩ : ByteArray).size), (⟨l.toArray⟩ : ByteArray)[k] = b from fun _ => (List.getElem?_eq_some_iff.1 hbk).2)
      go_wp2_with fail
      · rename_i h _
        rw [HE.out] at h
        go_ret
        refine ⟨?_, rfl⟩
        rw [show (l.any fun b => (b.toNat : Int) == c) = true from List.any_eq_true.2 ⟨b, List.mem_of_getElem? HB.out, h⟩]
        rfl
      · rename_i h
        rw [HE.out] at h
        refine ⟨⟨k + 1, by have := HLT.out; omega, by go_num, fun j hj b' hb' => ?_⟩, ?_⟩
        · by_cases hjk : j = k
          · subst hjk
            have := HB.out
            rw [hb'] at this
            injection this with this
            rw [this]; exact h
          · exact HA.out j (by omega) b' hb'
        · have := HLT.out
          simp [intOf]
          omega
    · have hkl : k = l.length := by omega
      subst hkl
      go_wp2_with fail
      go_ret
      refine ⟨?_, rfl⟩
      have : (l.any fun b => (b.toNat : Int) == c) = false := by
        rw [List.any_eq_false]
        intro b hb
        obtain ⟨j, hj⟩ := List.getElem?_of_mem hb
        have := HA.out j (List.getElem?_eq_some_iff.1 hj).1 b hj
        simp [this]
      rw [this]
      rfl
/-- What an operation has, by its letters. -/
theorem let_A (op : Int) (h0 : 0 ≤ op) (h22 : op ≤ 22) : (letH op).any (fun b => (b.toNat : Int) == 65) = hasA op ∧ (letH op).any (fun b => (b.toNat : Int) == 66) = hasB op ∧ (letH op).any (fun b => (b.toNat : Int) == 67) = hasC op ∧ (letH op).any (fun b => (b.toNat : Int) == 73) = hasI op ∧ (letH op).length ≤ 3 := by
  have h : op = 0 ∨ op = 1 ∨ op = 2 ∨ op = 3 ∨ op = 4 ∨ op = 5 ∨ op = 6 ∨ op = 7 ∨ op = 8 ∨ op = 9 ∨ op = 10 ∨ op = 11 ∨ op = 12 ∨ op = 13 ∨ op = 14 ∨ op = 15 ∨ op = 16 ∨ op = 17 ∨ op = 18 ∨ op = 19 ∨ op = 20 ∨ op = 21 ∨ op = 22 := by omega
  clear h0 h22
  rcases h with rfl | rfl | rfl | rfl | rfl | rfl | rfl | rfl | rfl | rfl | rfl | rfl | rfl | rfl | rfl | rfl | rfl | rfl | rfl | rfl | rfl | rfl | rfl
  all_goals exact ⟨by decide, by decide, by decide, by decide, by decide⟩
theorem rhas_A (op : Int) (h0 : 0 ≤ op) (h22 : op ≤ 22) (w : World) : Calls Tryz.prog 122 #[.int .i64 op, .int .u8 65] w fun e w' => e = .returned (.bool (hasA op)) ∧ w = w' := by
  have h := let_A op h0 h22
  rw [← h.1]; exact rhas_at op 65 _ h0 h22 rfl h.2.2.2.2 w
theorem rhas_B (op : Int) (h0 : 0 ≤ op) (h22 : op ≤ 22) (w : World) : Calls Tryz.prog 122 #[.int .i64 op, .int .u8 66] w fun e w' => e = .returned (.bool (hasB op)) ∧ w = w' := by
  have h := let_A op h0 h22
  rw [← h.2.1]; exact rhas_at op 66 _ h0 h22 rfl h.2.2.2.2 w
theorem rhas_C (op : Int) (h0 : 0 ≤ op) (h22 : op ≤ 22) (w : World) : Calls Tryz.prog 122 #[.int .i64 op, .int .u8 67] w fun e w' => e = .returned (.bool (hasC op)) ∧ w = w' := by
  have h := let_A op h0 h22
  rw [← h.2.2.1]; exact rhas_at op 67 _ h0 h22 rfl h.2.2.2.2 w
theorem rhas_I (op : Int) (h0 : 0 ≤ op) (h22 : op ≤ 22) (w : World) : Calls Tryz.prog 122 #[.int .i64 op, .int .u8 73] w fun e w' => e = .returned (.bool (hasI op)) ∧ w = w' := by
  have h := let_A op h0 h22
  rw [← h.2.2.2.1]; exact rhas_at op 73 _ h0 h22 rfl h.2.2.2.2 w
theorem rreg (n : Int) (w : World) : Calls Tryz.prog 123 #[.int .i64 n] w fun e w' => e = .returned (.bool (decide (0 ≤ n) && decide (n ≤ 7))) ∧ w = w' := by
  cases h1 : decide (0 ≤ n)
  all_goals
    go_enter Tryz.func123, Tryz.ntmps123
    go_wp2
    go_ret
    exact ⟨rfl, rfl⟩
end Go.Proofs.YtcjoinhngdfdmaaGreatDoor
end
section
namespace Go.Proofs.YtcjoinhngdfdmaaGreatDoor
open Go.RowKit
set_option linter.unusedVariables false
set_option maxHeartbeats 1000000

set_option maxRecDepth 100000
attribute [local go_sem ↓] cell_row frozen_row heap_drew heap_drewN heap_alloc heap_past heap_setCell heap_putRow loadIns storeIns loadPts storePts insc_op insc_a insc_b insc_c insc_im pts_0 pts_1 pts_2 pts_3 pts_4
attribute [local go_sem] rowCell_some rowFrozen_some rowHas_some rowIn_some rowPart_full rowPart_lit rowPut_full rowPut_lit rowSet_some size_putRow run_loadS run_storeS loadW_at storeW_at fit_all fit_le one_int one_bool one_pointer one_slice allOne_list putRow_new ne_size1 ne_size2 ne_size3 ne_size4 wideIns widePts insc_size insc_one insc_ne insc_lit insc_z fold_insc insc_set0 insc_set1 insc_set2 insc_set3 insc_set4 pts_lit pts_size pts_one pts_ne pts_set0 pts_set1 pts_set2 pts_set3 pts_set4 fold_pts
attribute [local simp ↓] heap_drew heap_drewN heap_alloc heap_past heap_setCell heap_putRow
attribute [local simp] rowCell_some rowFrozen_some rowHas_some rowIn_some rowPart_full rowPart_lit rowPut_full rowPut_lit rowSet_some size_putRow fit_all putRow_new ne_size1 ne_size2 ne_size3 ne_size4 insc_size pts_size fit_le
attribute [local go_sem] insZ_op insZ_a insZ_b insZ_c insZ_im
theorem rgood_0  (w : World) : Calls Tryz.prog 75 #[.agg (insc ⟨0, 0, 0, 0, 0⟩)] w fun e w' => e = .returned (.bool true) ∧ w' = w.alloc (.cells (insc ⟨0, 0, 0, 0, 0⟩) 33) := by
  have hx : (w.alloc (.cells (insc ⟨0, 0, 0, 0, 0⟩) 33)).heap[w.heap.size]? = some (.cells (insc ⟨0, 0, 0, 0, 0⟩) 33 (0, 0)) := by simp
  have LA : hasA 0 = false := by decide
  have LB : hasB 0 = false := by decide
  have LC : hasC 0 = false := by decide
  have LI : hasI 0 = false := by decide
  go_enter Tryz.func75, Tryz.ntmps75
  try dsimp only [List.append]
  go_wp2_with (first | (go_at_call 122; (with_reducible refine (rhas_A 0 (by omega) (by omega) _).mono ?_); rintro e w' ⟨rfl, rfl⟩) | (go_at_call 122; (with_reducible refine (rhas_B 0 (by omega) (by omega) _).mono ?_); rintro e w' ⟨rfl, rfl⟩) | (go_at_call 122; (with_reducible refine (rhas_C 0 (by omega) (by omega) _).mono ?_); rintro e w' ⟨rfl, rfl⟩) | (go_at_call 122; (with_reducible refine (rhas_I 0 (by omega) (by omega) _).mono ?_); rintro e w' ⟨rfl, rfl⟩))
  go_ret
  exact ⟨rfl, rfl⟩
theorem rgood_1 (a m : Int) (ha : 0 ≤ a ∧ a < 8) (hm : -2147483648 ≤ m ∧ m ≤ 2147483647) (w : World) : Calls Tryz.prog 75 #[.agg (insc ⟨1, a, 0, 0, m⟩)] w fun e w' => e = .returned (.bool true) ∧ w' = w.alloc (.cells (insc ⟨1, a, 0, 0, m⟩) 33) := by
  have hx : (w.alloc (.cells (insc ⟨1, a, 0, 0, m⟩) 33)).heap[w.heap.size]? = some (.cells (insc ⟨1, a, 0, 0, m⟩) 33 (0, 0)) := by simp
  have d1a : decide (0 ≤ a) = true := by simp; omega
  have d2a : decide (a ≤ 7) = true := by simp; omega
  have Ra := Lib.hid (fun w => rreg a w)
  rw [d1a, d2a] at Ra
  have e1 : decide (-2147483648 ≤ m) = true := by simp; omega
  have e2 : decide (m < 2147483648) = true := by simp; omega
  have LA : hasA 1 = true := by decide
  have LB : hasB 1 = false := by decide
  have LC : hasC 1 = false := by decide
  have LI : hasI 1 = true := by decide
  clear ha hm
  go_enter Tryz.func75, Tryz.ntmps75
  try dsimp only [List.append]
  go_wp2_with (first | (go_at_call 122; (with_reducible refine (rhas_A 1 (by omega) (by omega) _).mono ?_); rintro e w' ⟨rfl, rfl⟩) | (go_at_call 122; (with_reducible refine (rhas_B 1 (by omega) (by omega) _).mono ?_); rintro e w' ⟨rfl, rfl⟩) | (go_at_call 122; (with_reducible refine (rhas_C 1 (by omega) (by omega) _).mono ?_); rintro e w' ⟨rfl, rfl⟩) | (go_at_call 122; (with_reducible refine (rhas_I 1 (by omega) (by omega) _).mono ?_); rintro e w' ⟨rfl, rfl⟩) | (go_at_call 123; (with_reducible refine (Ra.out _).mono ?_); rintro e w' ⟨rfl, rfl⟩))
  go_ret
  exact ⟨rfl, rfl⟩
theorem rgood_2 (a b c : Int) (ha : 0 ≤ a ∧ a < 8) (hb : 0 ≤ b ∧ b < 8) (hc : 0 ≤ c ∧ c < 8) (w : World) : Calls Tryz.prog 75 #[.agg (insc ⟨2, a, b, c, 0⟩)] w fun e w' => e = .returned (.bool true) ∧ w' = w.alloc (.cells (insc ⟨2, a, b, c, 0⟩) 33) := by
  have hx : (w.alloc (.cells (insc ⟨2, a, b, c, 0⟩) 33)).heap[w.heap.size]? = some (.cells (insc ⟨2, a, b, c, 0⟩) 33 (0, 0)) := by simp
  have d1a : decide (0 ≤ a) = true := by simp; omega
  have d2a : decide (a ≤ 7) = true := by simp; omega
  have Ra := Lib.hid (fun w => rreg a w)
  rw [d1a, d2a] at Ra
  have d1b : decide (0 ≤ b) = true := by simp; omega
  have d2b : decide (b ≤ 7) = true := by simp; omega
  have Rb := Lib.hid (fun w => rreg b w)
  rw [d1b, d2b] at Rb
  have d1c : decide (0 ≤ c) = true := by simp; omega
  have d2c : decide (c ≤ 7) = true := by simp; omega
  have Rc := Lib.hid (fun w => rreg c w)
  rw [d1c, d2c] at Rc
  have LA : hasA 2 = true := by decide
  have LB : hasB 2 = true := by decide
  have LC : hasC 2 = true := by decide
  have LI : hasI 2 = false := by decide
  clear ha hb hc
  go_enter Tryz.func75, Tryz.ntmps75
  try dsimp only [List.append]
  go_wp2_with (first | (go_at_call 122; (with_reducible refine (rhas_A 2 (by omega) (by omega) _).mono ?_); rintro e w' ⟨rfl, rfl⟩) | (go_at_call 122; (with_reducible refine (rhas_B 2 (by omega) (by omega) _).mono ?_); rintro e w' ⟨rfl, rfl⟩) | (go_at_call 122; (with_reducible refine (rhas_C 2 (by omega) (by omega) _).mono ?_); rintro e w' ⟨rfl, rfl⟩) | (go_at_call 122; (with_reducible refine (rhas_I 2 (by omega) (by omega) _).mono ?_); rintro e w' ⟨rfl, rfl⟩) | (go_at_call 123; (with_reducible refine (Ra.out _).mono ?_); rintro e w' ⟨rfl, rfl⟩) | (go_at_call 123; (with_reducible refine (Rb.out _).mono ?_); rintro e w' ⟨rfl, rfl⟩) | (go_at_call 123; (with_reducible refine (Rc.out _).mono ?_); rintro e w' ⟨rfl, rfl⟩))
  go_ret
  exact ⟨rfl, rfl⟩
theorem rgood_3 (a b c : Int) (ha : 0 ≤ a ∧ a < 8) (hb : 0 ≤ b ∧ b < 8) (hc : 0 ≤ c ∧ c < 8) (w : World) : Calls Tryz.prog 75 #[.agg (insc ⟨3, a, b, c, 0⟩)] w fun e w' => e = .returned (.bool true) ∧ w' = w.alloc (.cells (insc ⟨3, a, b, c, 0⟩) 33) := by
  have hx : (w.alloc (.cells (insc ⟨3, a, b, c, 0⟩) 33)).heap[w.heap.size]? = some (.cells (insc ⟨3, a, b, c, 0⟩) 33 (0, 0)) := by simp
  have d1a : decide (0 ≤ a) = true := by simp; omega
  have d2a : decide (a ≤ 7) = true := by simp; omega
  have Ra := Lib.hid (fun w => rreg a w)
  rw [d1a, d2a] at Ra
  have d1b : decide (0 ≤ b) = true := by simp; omega
  have d2b : decide (b ≤ 7) = true := by simp; omega
  have Rb := Lib.hid (fun w => rreg b w)
  rw [d1b, d2b] at Rb
  have d1c : decide (0 ≤ c) = true := by simp; omega
  have d2c : decide (c ≤ 7) = true := by simp; omega
  have Rc := Lib.hid (fun w => rreg c w)
  rw [d1c, d2c] at Rc
  have LA : hasA 3 = true := by decide
  have LB : hasB 3 = true := by decide
  have LC : hasC 3 = true := by decide
  have LI : hasI 3 = false := by decide
  clear ha hb hc
  go_enter Tryz.func75, Tryz.ntmps75
  try dsimp only [List.append]
  go_wp2_with (first | (go_at_call 122; (with_reducible refine (rhas_A 3 (by omega) (by omega) _).mono ?_); rintro e w' ⟨rfl, rfl⟩) | (go_at_call 122; (with_reducible refine (rhas_B 3 (by omega) (by omega) _).mono ?_); rintro e w' ⟨rfl, rfl⟩) | (go_at_call 122; (with_reducible refine (rhas_C 3 (by omega) (by omega) _).mono ?_); rintro e w' ⟨rfl, rfl⟩) | (go_at_call 122; (with_reducible refine (rhas_I 3 (by omega) (by omega) _).mono ?_); rintro e w' ⟨rfl, rfl⟩) | (go_at_call 123; (with_reducible refine (Ra.out _).mono ?_); rintro e w' ⟨rfl, rfl⟩) | (go_at_call 123; (with_reducible refine (Rb.out _).mono ?_); rintro e w' ⟨rfl, rfl⟩) | (go_at_call 123; (with_reducible refine (Rc.out _).mono ?_); rintro e w' ⟨rfl, rfl⟩))
  go_ret
  exact ⟨rfl, rfl⟩
theorem rgood_4 (a b c : Int) (ha : 0 ≤ a ∧ a < 8) (hb : 0 ≤ b ∧ b < 8) (hc : 0 ≤ c ∧ c < 8) (w : World) : Calls Tryz.prog 75 #[.agg (insc ⟨4, a, b, c, 0⟩)] w fun e w' => e = .returned (.bool true) ∧ w' = w.alloc (.cells (insc ⟨4, a, b, c, 0⟩) 33) := by
  have hx : (w.alloc (.cells (insc ⟨4, a, b, c, 0⟩) 33)).heap[w.heap.size]? = some (.cells (insc ⟨4, a, b, c, 0⟩) 33 (0, 0)) := by simp
  have d1a : decide (0 ≤ a) = true := by simp; omega
  have d2a : decide (a ≤ 7) = true := by simp; omega
  have Ra := Lib.hid (fun w => rreg a w)
  rw [d1a, d2a] at Ra
  have d1b : decide (0 ≤ b) = true := by simp; omega
  have d2b : decide (b ≤ 7) = true := by simp; omega
  have Rb := Lib.hid (fun w => rreg b w)
  rw [d1b, d2b] at Rb
  have d1c : decide (0 ≤ c) = true := by simp; omega
  have d2c : decide (c ≤ 7) = true := by simp; omega
  have Rc := Lib.hid (fun w => rreg c w)
  rw [d1c, d2c] at Rc
  have LA : hasA 4 = true := by decide
  have LB : hasB 4 = true := by decide
  have LC : hasC 4 = true := by decide
  have LI : hasI 4 = false := by decide
  clear ha hb hc
  go_enter Tryz.func75, Tryz.ntmps75
  try dsimp only [List.append]
  go_wp2_with (first | (go_at_call 122; (with_reducible refine (rhas_A 4 (by omega) (by omega) _).mono ?_); rintro e w' ⟨rfl, rfl⟩) | (go_at_call 122; (with_reducible refine (rhas_B 4 (by omega) (by omega) _).mono ?_); rintro e w' ⟨rfl, rfl⟩) | (go_at_call 122; (with_reducible refine (rhas_C 4 (by omega) (by omega) _).mono ?_); rintro e w' ⟨rfl, rfl⟩) | (go_at_call 122; (with_reducible refine (rhas_I 4 (by omega) (by omega) _).mono ?_); rintro e w' ⟨rfl, rfl⟩) | (go_at_call 123; (with_reducible refine (Ra.out _).mono ?_); rintro e w' ⟨rfl, rfl⟩) | (go_at_call 123; (with_reducible refine (Rb.out _).mono ?_); rintro e w' ⟨rfl, rfl⟩) | (go_at_call 123; (with_reducible refine (Rc.out _).mono ?_); rintro e w' ⟨rfl, rfl⟩))
  go_ret
  exact ⟨rfl, rfl⟩
theorem rgood_5 (a b c : Int) (ha : 0 ≤ a ∧ a < 8) (hb : 0 ≤ b ∧ b < 8) (hc : 0 ≤ c ∧ c < 8) (w : World) : Calls Tryz.prog 75 #[.agg (insc ⟨5, a, b, c, 0⟩)] w fun e w' => e = .returned (.bool true) ∧ w' = w.alloc (.cells (insc ⟨5, a, b, c, 0⟩) 33) := by
  have hx : (w.alloc (.cells (insc ⟨5, a, b, c, 0⟩) 33)).heap[w.heap.size]? = some (.cells (insc ⟨5, a, b, c, 0⟩) 33 (0, 0)) := by simp
  have d1a : decide (0 ≤ a) = true := by simp; omega
  have d2a : decide (a ≤ 7) = true := by simp; omega
  have Ra := Lib.hid (fun w => rreg a w)
  rw [d1a, d2a] at Ra
  have d1b : decide (0 ≤ b) = true := by simp; omega
  have d2b : decide (b ≤ 7) = true := by simp; omega
  have Rb := Lib.hid (fun w => rreg b w)
  rw [d1b, d2b] at Rb
  have d1c : decide (0 ≤ c) = true := by simp; omega
  have d2c : decide (c ≤ 7) = true := by simp; omega
  have Rc := Lib.hid (fun w => rreg c w)
  rw [d1c, d2c] at Rc
  have LA : hasA 5 = true := by decide
  have LB : hasB 5 = true := by decide
  have LC : hasC 5 = true := by decide
  have LI : hasI 5 = false := by decide
  clear ha hb hc
  go_enter Tryz.func75, Tryz.ntmps75
  try dsimp only [List.append]
  go_wp2_with (first | (go_at_call 122; (with_reducible refine (rhas_A 5 (by omega) (by omega) _).mono ?_); rintro e w' ⟨rfl, rfl⟩) | (go_at_call 122; (with_reducible refine (rhas_B 5 (by omega) (by omega) _).mono ?_); rintro e w' ⟨rfl, rfl⟩) | (go_at_call 122; (with_reducible refine (rhas_C 5 (by omega) (by omega) _).mono ?_); rintro e w' ⟨rfl, rfl⟩) | (go_at_call 122; (with_reducible refine (rhas_I 5 (by omega) (by omega) _).mono ?_); rintro e w' ⟨rfl, rfl⟩) | (go_at_call 123; (with_reducible refine (Ra.out _).mono ?_); rintro e w' ⟨rfl, rfl⟩) | (go_at_call 123; (with_reducible refine (Rb.out _).mono ?_); rintro e w' ⟨rfl, rfl⟩) | (go_at_call 123; (with_reducible refine (Rc.out _).mono ?_); rintro e w' ⟨rfl, rfl⟩))
  go_ret
  exact ⟨rfl, rfl⟩
theorem rgood_6 (a b c : Int) (ha : 0 ≤ a ∧ a < 8) (hb : 0 ≤ b ∧ b < 8) (hc : 0 ≤ c ∧ c < 8) (w : World) : Calls Tryz.prog 75 #[.agg (insc ⟨6, a, b, c, 0⟩)] w fun e w' => e = .returned (.bool true) ∧ w' = w.alloc (.cells (insc ⟨6, a, b, c, 0⟩) 33) := by
  have hx : (w.alloc (.cells (insc ⟨6, a, b, c, 0⟩) 33)).heap[w.heap.size]? = some (.cells (insc ⟨6, a, b, c, 0⟩) 33 (0, 0)) := by simp
  have d1a : decide (0 ≤ a) = true := by simp; omega
  have d2a : decide (a ≤ 7) = true := by simp; omega
  have Ra := Lib.hid (fun w => rreg a w)
  rw [d1a, d2a] at Ra
  have d1b : decide (0 ≤ b) = true := by simp; omega
  have d2b : decide (b ≤ 7) = true := by simp; omega
  have Rb := Lib.hid (fun w => rreg b w)
  rw [d1b, d2b] at Rb
  have d1c : decide (0 ≤ c) = true := by simp; omega
  have d2c : decide (c ≤ 7) = true := by simp; omega
  have Rc := Lib.hid (fun w => rreg c w)
  rw [d1c, d2c] at Rc
  have LA : hasA 6 = true := by decide
  have LB : hasB 6 = true := by decide
  have LC : hasC 6 = true := by decide
  have LI : hasI 6 = false := by decide
  clear ha hb hc
  go_enter Tryz.func75, Tryz.ntmps75
  try dsimp only [List.append]
  go_wp2_with (first | (go_at_call 122; (with_reducible refine (rhas_A 6 (by omega) (by omega) _).mono ?_); rintro e w' ⟨rfl, rfl⟩) | (go_at_call 122; (with_reducible refine (rhas_B 6 (by omega) (by omega) _).mono ?_); rintro e w' ⟨rfl, rfl⟩) | (go_at_call 122; (with_reducible refine (rhas_C 6 (by omega) (by omega) _).mono ?_); rintro e w' ⟨rfl, rfl⟩) | (go_at_call 122; (with_reducible refine (rhas_I 6 (by omega) (by omega) _).mono ?_); rintro e w' ⟨rfl, rfl⟩) | (go_at_call 123; (with_reducible refine (Ra.out _).mono ?_); rintro e w' ⟨rfl, rfl⟩) | (go_at_call 123; (with_reducible refine (Rb.out _).mono ?_); rintro e w' ⟨rfl, rfl⟩) | (go_at_call 123; (with_reducible refine (Rc.out _).mono ?_); rintro e w' ⟨rfl, rfl⟩))
  go_ret
  exact ⟨rfl, rfl⟩
theorem rgood_7 (a b c : Int) (ha : 0 ≤ a ∧ a < 8) (hb : 0 ≤ b ∧ b < 8) (hc : 0 ≤ c ∧ c < 8) (w : World) : Calls Tryz.prog 75 #[.agg (insc ⟨7, a, b, c, 0⟩)] w fun e w' => e = .returned (.bool true) ∧ w' = w.alloc (.cells (insc ⟨7, a, b, c, 0⟩) 33) := by
  have hx : (w.alloc (.cells (insc ⟨7, a, b, c, 0⟩) 33)).heap[w.heap.size]? = some (.cells (insc ⟨7, a, b, c, 0⟩) 33 (0, 0)) := by simp
  have d1a : decide (0 ≤ a) = true := by simp; omega
  have d2a : decide (a ≤ 7) = true := by simp; omega
  have Ra := Lib.hid (fun w => rreg a w)
  rw [d1a, d2a] at Ra
  have d1b : decide (0 ≤ b) = true := by simp; omega
  have d2b : decide (b ≤ 7) = true := by simp; omega
  have Rb := Lib.hid (fun w => rreg b w)
  rw [d1b, d2b] at Rb
  have d1c : decide (0 ≤ c) = true := by simp; omega
  have d2c : decide (c ≤ 7) = true := by simp; omega
  have Rc := Lib.hid (fun w => rreg c w)
  rw [d1c, d2c] at Rc
  have LA : hasA 7 = true := by decide
  have LB : hasB 7 = true := by decide
  have LC : hasC 7 = true := by decide
  have LI : hasI 7 = false := by decide
  clear ha hb hc
  go_enter Tryz.func75, Tryz.ntmps75
  try dsimp only [List.append]
  go_wp2_with (first | (go_at_call 122; (with_reducible refine (rhas_A 7 (by omega) (by omega) _).mono ?_); rintro e w' ⟨rfl, rfl⟩) | (go_at_call 122; (with_reducible refine (rhas_B 7 (by omega) (by omega) _).mono ?_); rintro e w' ⟨rfl, rfl⟩) | (go_at_call 122; (with_reducible refine (rhas_C 7 (by omega) (by omega) _).mono ?_); rintro e w' ⟨rfl, rfl⟩) | (go_at_call 122; (with_reducible refine (rhas_I 7 (by omega) (by omega) _).mono ?_); rintro e w' ⟨rfl, rfl⟩) | (go_at_call 123; (with_reducible refine (Ra.out _).mono ?_); rintro e w' ⟨rfl, rfl⟩) | (go_at_call 123; (with_reducible refine (Rb.out _).mono ?_); rintro e w' ⟨rfl, rfl⟩) | (go_at_call 123; (with_reducible refine (Rc.out _).mono ?_); rintro e w' ⟨rfl, rfl⟩))
  go_ret
  exact ⟨rfl, rfl⟩
theorem rgood_8 (a b m : Int) (ha : 0 ≤ a ∧ a < 8) (hb : 0 ≤ b ∧ b < 8) (hm : -2147483648 ≤ m ∧ m ≤ 2147483647) (w : World) : Calls Tryz.prog 75 #[.agg (insc ⟨8, a, b, 0, m⟩)] w fun e w' => e = .returned (.bool true) ∧ w' = w.alloc (.cells (insc ⟨8, a, b, 0, m⟩) 33) := by
  have hx : (w.alloc (.cells (insc ⟨8, a, b, 0, m⟩) 33)).heap[w.heap.size]? = some (.cells (insc ⟨8, a, b, 0, m⟩) 33 (0, 0)) := by simp
  have d1a : decide (0 ≤ a) = true := by simp; omega
  have d2a : decide (a ≤ 7) = true := by simp; omega
  have Ra := Lib.hid (fun w => rreg a w)
  rw [d1a, d2a] at Ra
  have d1b : decide (0 ≤ b) = true := by simp; omega
  have d2b : decide (b ≤ 7) = true := by simp; omega
  have Rb := Lib.hid (fun w => rreg b w)
  rw [d1b, d2b] at Rb
  have e1 : decide (-2147483648 ≤ m) = true := by simp; omega
  have e2 : decide (m < 2147483648) = true := by simp; omega
  have LA : hasA 8 = true := by decide
  have LB : hasB 8 = true := by decide
  have LC : hasC 8 = false := by decide
  have LI : hasI 8 = true := by decide
  clear ha hb hm
  go_enter Tryz.func75, Tryz.ntmps75
  try dsimp only [List.append]
  go_wp2_with (first | (go_at_call 122; (with_reducible refine (rhas_A 8 (by omega) (by omega) _).mono ?_); rintro e w' ⟨rfl, rfl⟩) | (go_at_call 122; (with_reducible refine (rhas_B 8 (by omega) (by omega) _).mono ?_); rintro e w' ⟨rfl, rfl⟩) | (go_at_call 122; (with_reducible refine (rhas_C 8 (by omega) (by omega) _).mono ?_); rintro e w' ⟨rfl, rfl⟩) | (go_at_call 122; (with_reducible refine (rhas_I 8 (by omega) (by omega) _).mono ?_); rintro e w' ⟨rfl, rfl⟩) | (go_at_call 123; (with_reducible refine (Ra.out _).mono ?_); rintro e w' ⟨rfl, rfl⟩) | (go_at_call 123; (with_reducible refine (Rb.out _).mono ?_); rintro e w' ⟨rfl, rfl⟩))
  go_ret
  exact ⟨rfl, rfl⟩
theorem rgood_9 (a b m : Int) (ha : 0 ≤ a ∧ a < 8) (hb : 0 ≤ b ∧ b < 8) (hm : -2147483648 ≤ m ∧ m ≤ 2147483647) (w : World) : Calls Tryz.prog 75 #[.agg (insc ⟨9, a, b, 0, m⟩)] w fun e w' => e = .returned (.bool true) ∧ w' = w.alloc (.cells (insc ⟨9, a, b, 0, m⟩) 33) := by
  have hx : (w.alloc (.cells (insc ⟨9, a, b, 0, m⟩) 33)).heap[w.heap.size]? = some (.cells (insc ⟨9, a, b, 0, m⟩) 33 (0, 0)) := by simp
  have d1a : decide (0 ≤ a) = true := by simp; omega
  have d2a : decide (a ≤ 7) = true := by simp; omega
  have Ra := Lib.hid (fun w => rreg a w)
  rw [d1a, d2a] at Ra
  have d1b : decide (0 ≤ b) = true := by simp; omega
  have d2b : decide (b ≤ 7) = true := by simp; omega
  have Rb := Lib.hid (fun w => rreg b w)
  rw [d1b, d2b] at Rb
  have e1 : decide (-2147483648 ≤ m) = true := by simp; omega
  have e2 : decide (m < 2147483648) = true := by simp; omega
  have LA : hasA 9 = true := by decide
  have LB : hasB 9 = true := by decide
  have LC : hasC 9 = false := by decide
  have LI : hasI 9 = true := by decide
  clear ha hb hm
  go_enter Tryz.func75, Tryz.ntmps75
  try dsimp only [List.append]
  go_wp2_with (first | (go_at_call 122; (with_reducible refine (rhas_A 9 (by omega) (by omega) _).mono ?_); rintro e w' ⟨rfl, rfl⟩) | (go_at_call 122; (with_reducible refine (rhas_B 9 (by omega) (by omega) _).mono ?_); rintro e w' ⟨rfl, rfl⟩) | (go_at_call 122; (with_reducible refine (rhas_C 9 (by omega) (by omega) _).mono ?_); rintro e w' ⟨rfl, rfl⟩) | (go_at_call 122; (with_reducible refine (rhas_I 9 (by omega) (by omega) _).mono ?_); rintro e w' ⟨rfl, rfl⟩) | (go_at_call 123; (with_reducible refine (Ra.out _).mono ?_); rintro e w' ⟨rfl, rfl⟩) | (go_at_call 123; (with_reducible refine (Rb.out _).mono ?_); rintro e w' ⟨rfl, rfl⟩))
  go_ret
  exact ⟨rfl, rfl⟩
theorem rgood_10 (a b c : Int) (ha : 0 ≤ a ∧ a < 8) (hb : 0 ≤ b ∧ b < 8) (hc : 0 ≤ c ∧ c < 8) (w : World) : Calls Tryz.prog 75 #[.agg (insc ⟨10, a, b, c, 0⟩)] w fun e w' => e = .returned (.bool true) ∧ w' = w.alloc (.cells (insc ⟨10, a, b, c, 0⟩) 33) := by
  have hx : (w.alloc (.cells (insc ⟨10, a, b, c, 0⟩) 33)).heap[w.heap.size]? = some (.cells (insc ⟨10, a, b, c, 0⟩) 33 (0, 0)) := by simp
  have d1a : decide (0 ≤ a) = true := by simp; omega
  have d2a : decide (a ≤ 7) = true := by simp; omega
  have Ra := Lib.hid (fun w => rreg a w)
  rw [d1a, d2a] at Ra
  have d1b : decide (0 ≤ b) = true := by simp; omega
  have d2b : decide (b ≤ 7) = true := by simp; omega
  have Rb := Lib.hid (fun w => rreg b w)
  rw [d1b, d2b] at Rb
  have d1c : decide (0 ≤ c) = true := by simp; omega
  have d2c : decide (c ≤ 7) = true := by simp; omega
  have Rc := Lib.hid (fun w => rreg c w)
  rw [d1c, d2c] at Rc
  have LA : hasA 10 = true := by decide
  have LB : hasB 10 = true := by decide
  have LC : hasC 10 = true := by decide
  have LI : hasI 10 = false := by decide
  clear ha hb hc
  go_enter Tryz.func75, Tryz.ntmps75
  try dsimp only [List.append]
  go_wp2_with (first | (go_at_call 122; (with_reducible refine (rhas_A 10 (by omega) (by omega) _).mono ?_); rintro e w' ⟨rfl, rfl⟩) | (go_at_call 122; (with_reducible refine (rhas_B 10 (by omega) (by omega) _).mono ?_); rintro e w' ⟨rfl, rfl⟩) | (go_at_call 122; (with_reducible refine (rhas_C 10 (by omega) (by omega) _).mono ?_); rintro e w' ⟨rfl, rfl⟩) | (go_at_call 122; (with_reducible refine (rhas_I 10 (by omega) (by omega) _).mono ?_); rintro e w' ⟨rfl, rfl⟩) | (go_at_call 123; (with_reducible refine (Ra.out _).mono ?_); rintro e w' ⟨rfl, rfl⟩) | (go_at_call 123; (with_reducible refine (Rb.out _).mono ?_); rintro e w' ⟨rfl, rfl⟩) | (go_at_call 123; (with_reducible refine (Rc.out _).mono ?_); rintro e w' ⟨rfl, rfl⟩))
  go_ret
  exact ⟨rfl, rfl⟩
theorem rgood_11 (a b c : Int) (ha : 0 ≤ a ∧ a < 8) (hb : 0 ≤ b ∧ b < 8) (hc : 0 ≤ c ∧ c < 8) (w : World) : Calls Tryz.prog 75 #[.agg (insc ⟨11, a, b, c, 0⟩)] w fun e w' => e = .returned (.bool true) ∧ w' = w.alloc (.cells (insc ⟨11, a, b, c, 0⟩) 33) := by
  have hx : (w.alloc (.cells (insc ⟨11, a, b, c, 0⟩) 33)).heap[w.heap.size]? = some (.cells (insc ⟨11, a, b, c, 0⟩) 33 (0, 0)) := by simp
  have d1a : decide (0 ≤ a) = true := by simp; omega
  have d2a : decide (a ≤ 7) = true := by simp; omega
  have Ra := Lib.hid (fun w => rreg a w)
  rw [d1a, d2a] at Ra
  have d1b : decide (0 ≤ b) = true := by simp; omega
  have d2b : decide (b ≤ 7) = true := by simp; omega
  have Rb := Lib.hid (fun w => rreg b w)
  rw [d1b, d2b] at Rb
  have d1c : decide (0 ≤ c) = true := by simp; omega
  have d2c : decide (c ≤ 7) = true := by simp; omega
  have Rc := Lib.hid (fun w => rreg c w)
  rw [d1c, d2c] at Rc
  have LA : hasA 11 = true := by decide
  have LB : hasB 11 = true := by decide
  have LC : hasC 11 = true := by decide
  have LI : hasI 11 = false := by decide
  clear ha hb hc
  go_enter Tryz.func75, Tryz.ntmps75
  try dsimp only [List.append]
  go_wp2_with (first | (go_at_call 122; (with_reducible refine (rhas_A 11 (by omega) (by omega) _).mono ?_); rintro e w' ⟨rfl, rfl⟩) | (go_at_call 122; (with_reducible refine (rhas_B 11 (by omega) (by omega) _).mono ?_); rintro e w' ⟨rfl, rfl⟩) | (go_at_call 122; (with_reducible refine (rhas_C 11 (by omega) (by omega) _).mono ?_); rintro e w' ⟨rfl, rfl⟩) | (go_at_call 122; (with_reducible refine (rhas_I 11 (by omega) (by omega) _).mono ?_); rintro e w' ⟨rfl, rfl⟩) | (go_at_call 123; (with_reducible refine (Ra.out _).mono ?_); rintro e w' ⟨rfl, rfl⟩) | (go_at_call 123; (with_reducible refine (Rb.out _).mono ?_); rintro e w' ⟨rfl, rfl⟩) | (go_at_call 123; (with_reducible refine (Rc.out _).mono ?_); rintro e w' ⟨rfl, rfl⟩))
  go_ret
  exact ⟨rfl, rfl⟩
theorem rgood_12 (b m : Int) (hb : 0 ≤ b ∧ b < 8) (hm : -2147483648 ≤ m ∧ m ≤ 2147483647) (w : World) : Calls Tryz.prog 75 #[.agg (insc ⟨12, 0, b, 0, m⟩)] w fun e w' => e = .returned (.bool true) ∧ w' = w.alloc (.cells (insc ⟨12, 0, b, 0, m⟩) 33) := by
  have hx : (w.alloc (.cells (insc ⟨12, 0, b, 0, m⟩) 33)).heap[w.heap.size]? = some (.cells (insc ⟨12, 0, b, 0, m⟩) 33 (0, 0)) := by simp
  have d1b : decide (0 ≤ b) = true := by simp; omega
  have d2b : decide (b ≤ 7) = true := by simp; omega
  have Rb := Lib.hid (fun w => rreg b w)
  rw [d1b, d2b] at Rb
  have e1 : decide (-2147483648 ≤ m) = true := by simp; omega
  have e2 : decide (m < 2147483648) = true := by simp; omega
  have LA : hasA 12 = false := by decide
  have LB : hasB 12 = true := by decide
  have LC : hasC 12 = false := by decide
  have LI : hasI 12 = true := by decide
  clear hb hm
  go_enter Tryz.func75, Tryz.ntmps75
  try dsimp only [List.append]
  go_wp2_with (first | (go_at_call 122; (with_reducible refine (rhas_A 12 (by omega) (by omega) _).mono ?_); rintro e w' ⟨rfl, rfl⟩) | (go_at_call 122; (with_reducible refine (rhas_B 12 (by omega) (by omega) _).mono ?_); rintro e w' ⟨rfl, rfl⟩) | (go_at_call 122; (with_reducible refine (rhas_C 12 (by omega) (by omega) _).mono ?_); rintro e w' ⟨rfl, rfl⟩) | (go_at_call 122; (with_reducible refine (rhas_I 12 (by omega) (by omega) _).mono ?_); rintro e w' ⟨rfl, rfl⟩) | (go_at_call 123; (with_reducible refine (Rb.out _).mono ?_); rintro e w' ⟨rfl, rfl⟩))
  go_ret
  exact ⟨rfl, rfl⟩
theorem rgood_13 (b m : Int) (hb : 0 ≤ b ∧ b < 8) (hm : -2147483648 ≤ m ∧ m ≤ 2147483647) (w : World) : Calls Tryz.prog 75 #[.agg (insc ⟨13, 0, b, 0, m⟩)] w fun e w' => e = .returned (.bool true) ∧ w' = w.alloc (.cells (insc ⟨13, 0, b, 0, m⟩) 33) := by
  have hx : (w.alloc (.cells (insc ⟨13, 0, b, 0, m⟩) 33)).heap[w.heap.size]? = some (.cells (insc ⟨13, 0, b, 0, m⟩) 33 (0, 0)) := by simp
  have d1b : decide (0 ≤ b) = true := by simp; omega
  have d2b : decide (b ≤ 7) = true := by simp; omega
  have Rb := Lib.hid (fun w => rreg b w)
  rw [d1b, d2b] at Rb
  have e1 : decide (-2147483648 ≤ m) = true := by simp; omega
  have e2 : decide (m < 2147483648) = true := by simp; omega
  have LA : hasA 13 = false := by decide
  have LB : hasB 13 = true := by decide
  have LC : hasC 13 = false := by decide
  have LI : hasI 13 = true := by decide
  clear hb hm
  go_enter Tryz.func75, Tryz.ntmps75
  try dsimp only [List.append]
  go_wp2_with (first | (go_at_call 122; (with_reducible refine (rhas_A 13 (by omega) (by omega) _).mono ?_); rintro e w' ⟨rfl, rfl⟩) | (go_at_call 122; (with_reducible refine (rhas_B 13 (by omega) (by omega) _).mono ?_); rintro e w' ⟨rfl, rfl⟩) | (go_at_call 122; (with_reducible refine (rhas_C 13 (by omega) (by omega) _).mono ?_); rintro e w' ⟨rfl, rfl⟩) | (go_at_call 122; (with_reducible refine (rhas_I 13 (by omega) (by omega) _).mono ?_); rintro e w' ⟨rfl, rfl⟩) | (go_at_call 123; (with_reducible refine (Rb.out _).mono ?_); rintro e w' ⟨rfl, rfl⟩))
  go_ret
  exact ⟨rfl, rfl⟩
theorem rgood_14 (b m : Int) (hb : 0 ≤ b ∧ b < 8) (hm : -2147483648 ≤ m ∧ m ≤ 2147483647) (w : World) : Calls Tryz.prog 75 #[.agg (insc ⟨14, 0, b, 0, m⟩)] w fun e w' => e = .returned (.bool true) ∧ w' = w.alloc (.cells (insc ⟨14, 0, b, 0, m⟩) 33) := by
  have hx : (w.alloc (.cells (insc ⟨14, 0, b, 0, m⟩) 33)).heap[w.heap.size]? = some (.cells (insc ⟨14, 0, b, 0, m⟩) 33 (0, 0)) := by simp
  have d1b : decide (0 ≤ b) = true := by simp; omega
  have d2b : decide (b ≤ 7) = true := by simp; omega
  have Rb := Lib.hid (fun w => rreg b w)
  rw [d1b, d2b] at Rb
  have e1 : decide (-2147483648 ≤ m) = true := by simp; omega
  have e2 : decide (m < 2147483648) = true := by simp; omega
  have LA : hasA 14 = false := by decide
  have LB : hasB 14 = true := by decide
  have LC : hasC 14 = false := by decide
  have LI : hasI 14 = true := by decide
  clear hb hm
  go_enter Tryz.func75, Tryz.ntmps75
  try dsimp only [List.append]
  go_wp2_with (first | (go_at_call 122; (with_reducible refine (rhas_A 14 (by omega) (by omega) _).mono ?_); rintro e w' ⟨rfl, rfl⟩) | (go_at_call 122; (with_reducible refine (rhas_B 14 (by omega) (by omega) _).mono ?_); rintro e w' ⟨rfl, rfl⟩) | (go_at_call 122; (with_reducible refine (rhas_C 14 (by omega) (by omega) _).mono ?_); rintro e w' ⟨rfl, rfl⟩) | (go_at_call 122; (with_reducible refine (rhas_I 14 (by omega) (by omega) _).mono ?_); rintro e w' ⟨rfl, rfl⟩) | (go_at_call 123; (with_reducible refine (Rb.out _).mono ?_); rintro e w' ⟨rfl, rfl⟩))
  go_ret
  exact ⟨rfl, rfl⟩
theorem rgood_15  (w : World) : Calls Tryz.prog 75 #[.agg (insc ⟨15, 0, 0, 0, 0⟩)] w fun e w' => e = .returned (.bool true) ∧ w' = w.alloc (.cells (insc ⟨15, 0, 0, 0, 0⟩) 33) := by
  have hx : (w.alloc (.cells (insc ⟨15, 0, 0, 0, 0⟩) 33)).heap[w.heap.size]? = some (.cells (insc ⟨15, 0, 0, 0, 0⟩) 33 (0, 0)) := by simp
  have LA : hasA 15 = false := by decide
  have LB : hasB 15 = false := by decide
  have LC : hasC 15 = false := by decide
  have LI : hasI 15 = false := by decide
  go_enter Tryz.func75, Tryz.ntmps75
  try dsimp only [List.append]
  go_wp2_with (first | (go_at_call 122; (with_reducible refine (rhas_A 15 (by omega) (by omega) _).mono ?_); rintro e w' ⟨rfl, rfl⟩) | (go_at_call 122; (with_reducible refine (rhas_B 15 (by omega) (by omega) _).mono ?_); rintro e w' ⟨rfl, rfl⟩) | (go_at_call 122; (with_reducible refine (rhas_C 15 (by omega) (by omega) _).mono ?_); rintro e w' ⟨rfl, rfl⟩) | (go_at_call 122; (with_reducible refine (rhas_I 15 (by omega) (by omega) _).mono ?_); rintro e w' ⟨rfl, rfl⟩))
  go_ret
  exact ⟨rfl, rfl⟩
theorem rgood_16  (w : World) : Calls Tryz.prog 75 #[.agg (insc ⟨16, 0, 0, 0, 0⟩)] w fun e w' => e = .returned (.bool true) ∧ w' = w.alloc (.cells (insc ⟨16, 0, 0, 0, 0⟩) 33) := by
  have hx : (w.alloc (.cells (insc ⟨16, 0, 0, 0, 0⟩) 33)).heap[w.heap.size]? = some (.cells (insc ⟨16, 0, 0, 0, 0⟩) 33 (0, 0)) := by simp
  have LA : hasA 16 = false := by decide
  have LB : hasB 16 = false := by decide
  have LC : hasC 16 = false := by decide
  have LI : hasI 16 = false := by decide
  go_enter Tryz.func75, Tryz.ntmps75
  try dsimp only [List.append]
  go_wp2_with (first | (go_at_call 122; (with_reducible refine (rhas_A 16 (by omega) (by omega) _).mono ?_); rintro e w' ⟨rfl, rfl⟩) | (go_at_call 122; (with_reducible refine (rhas_B 16 (by omega) (by omega) _).mono ?_); rintro e w' ⟨rfl, rfl⟩) | (go_at_call 122; (with_reducible refine (rhas_C 16 (by omega) (by omega) _).mono ?_); rintro e w' ⟨rfl, rfl⟩) | (go_at_call 122; (with_reducible refine (rhas_I 16 (by omega) (by omega) _).mono ?_); rintro e w' ⟨rfl, rfl⟩))
  go_ret
  exact ⟨rfl, rfl⟩
theorem rgood_17 (m : Int) (hm : 0 ≤ m ∧ m ≤ 2147483647) (w : World) : Calls Tryz.prog 75 #[.agg (insc ⟨17, 0, 0, 0, m⟩)] w fun e w' => e = .returned (.bool true) ∧ w' = w.alloc (.cells (insc ⟨17, 0, 0, 0, m⟩) 33) := by
  have hx : (w.alloc (.cells (insc ⟨17, 0, 0, 0, m⟩) 33)).heap[w.heap.size]? = some (.cells (insc ⟨17, 0, 0, 0, m⟩) 33 (0, 0)) := by simp
  have e1 : decide (-2147483648 ≤ m) = true := by simp; omega
  have e2 : decide (m < 2147483648) = true := by simp; omega
  have e3 : decide (0 ≤ m) = true := by simp; omega
  have LA : hasA 17 = false := by decide
  have LB : hasB 17 = false := by decide
  have LC : hasC 17 = false := by decide
  have LI : hasI 17 = true := by decide
  clear  hm
  go_enter Tryz.func75, Tryz.ntmps75
  try dsimp only [List.append]
  go_wp2_with (first | (go_at_call 122; (with_reducible refine (rhas_A 17 (by omega) (by omega) _).mono ?_); rintro e w' ⟨rfl, rfl⟩) | (go_at_call 122; (with_reducible refine (rhas_B 17 (by omega) (by omega) _).mono ?_); rintro e w' ⟨rfl, rfl⟩) | (go_at_call 122; (with_reducible refine (rhas_C 17 (by omega) (by omega) _).mono ?_); rintro e w' ⟨rfl, rfl⟩) | (go_at_call 122; (with_reducible refine (rhas_I 17 (by omega) (by omega) _).mono ?_); rintro e w' ⟨rfl, rfl⟩))
  go_ret
  exact ⟨rfl, rfl⟩
theorem rgood_18 (a b m : Int) (ha : 0 ≤ a ∧ a < 8) (hb : 0 ≤ b ∧ b < 8) (hm : 0 ≤ m ∧ m ≤ 2147483647) (w : World) : Calls Tryz.prog 75 #[.agg (insc ⟨18, a, b, 0, m⟩)] w fun e w' => e = .returned (.bool true) ∧ w' = w.alloc (.cells (insc ⟨18, a, b, 0, m⟩) 33) := by
  have hx : (w.alloc (.cells (insc ⟨18, a, b, 0, m⟩) 33)).heap[w.heap.size]? = some (.cells (insc ⟨18, a, b, 0, m⟩) 33 (0, 0)) := by simp
  have d1a : decide (0 ≤ a) = true := by simp; omega
  have d2a : decide (a ≤ 7) = true := by simp; omega
  have Ra := Lib.hid (fun w => rreg a w)
  rw [d1a, d2a] at Ra
  have d1b : decide (0 ≤ b) = true := by simp; omega
  have d2b : decide (b ≤ 7) = true := by simp; omega
  have Rb := Lib.hid (fun w => rreg b w)
  rw [d1b, d2b] at Rb
  have e1 : decide (-2147483648 ≤ m) = true := by simp; omega
  have e2 : decide (m < 2147483648) = true := by simp; omega
  have e3 : decide (0 ≤ m) = true := by simp; omega
  have LA : hasA 18 = true := by decide
  have LB : hasB 18 = true := by decide
  have LC : hasC 18 = false := by decide
  have LI : hasI 18 = true := by decide
  clear ha hb hm
  go_enter Tryz.func75, Tryz.ntmps75
  try dsimp only [List.append]
  go_wp2_with (first | (go_at_call 122; (with_reducible refine (rhas_A 18 (by omega) (by omega) _).mono ?_); rintro e w' ⟨rfl, rfl⟩) | (go_at_call 122; (with_reducible refine (rhas_B 18 (by omega) (by omega) _).mono ?_); rintro e w' ⟨rfl, rfl⟩) | (go_at_call 122; (with_reducible refine (rhas_C 18 (by omega) (by omega) _).mono ?_); rintro e w' ⟨rfl, rfl⟩) | (go_at_call 122; (with_reducible refine (rhas_I 18 (by omega) (by omega) _).mono ?_); rintro e w' ⟨rfl, rfl⟩) | (go_at_call 123; (with_reducible refine (Ra.out _).mono ?_); rintro e w' ⟨rfl, rfl⟩) | (go_at_call 123; (with_reducible refine (Rb.out _).mono ?_); rintro e w' ⟨rfl, rfl⟩))
  go_ret
  exact ⟨rfl, rfl⟩
theorem rgood_19 (a b m : Int) (ha : 0 ≤ a ∧ a < 8) (hb : 0 ≤ b ∧ b < 8) (hm : 0 ≤ m ∧ m ≤ 2147483647) (w : World) : Calls Tryz.prog 75 #[.agg (insc ⟨19, a, b, 0, m⟩)] w fun e w' => e = .returned (.bool true) ∧ w' = w.alloc (.cells (insc ⟨19, a, b, 0, m⟩) 33) := by
  have hx : (w.alloc (.cells (insc ⟨19, a, b, 0, m⟩) 33)).heap[w.heap.size]? = some (.cells (insc ⟨19, a, b, 0, m⟩) 33 (0, 0)) := by simp
  have d1a : decide (0 ≤ a) = true := by simp; omega
  have d2a : decide (a ≤ 7) = true := by simp; omega
  have Ra := Lib.hid (fun w => rreg a w)
  rw [d1a, d2a] at Ra
  have d1b : decide (0 ≤ b) = true := by simp; omega
  have d2b : decide (b ≤ 7) = true := by simp; omega
  have Rb := Lib.hid (fun w => rreg b w)
  rw [d1b, d2b] at Rb
  have e1 : decide (-2147483648 ≤ m) = true := by simp; omega
  have e2 : decide (m < 2147483648) = true := by simp; omega
  have e3 : decide (0 ≤ m) = true := by simp; omega
  have LA : hasA 19 = true := by decide
  have LB : hasB 19 = true := by decide
  have LC : hasC 19 = false := by decide
  have LI : hasI 19 = true := by decide
  clear ha hb hm
  go_enter Tryz.func75, Tryz.ntmps75
  try dsimp only [List.append]
  go_wp2_with (first | (go_at_call 122; (with_reducible refine (rhas_A 19 (by omega) (by omega) _).mono ?_); rintro e w' ⟨rfl, rfl⟩) | (go_at_call 122; (with_reducible refine (rhas_B 19 (by omega) (by omega) _).mono ?_); rintro e w' ⟨rfl, rfl⟩) | (go_at_call 122; (with_reducible refine (rhas_C 19 (by omega) (by omega) _).mono ?_); rintro e w' ⟨rfl, rfl⟩) | (go_at_call 122; (with_reducible refine (rhas_I 19 (by omega) (by omega) _).mono ?_); rintro e w' ⟨rfl, rfl⟩) | (go_at_call 123; (with_reducible refine (Ra.out _).mono ?_); rintro e w' ⟨rfl, rfl⟩) | (go_at_call 123; (with_reducible refine (Rb.out _).mono ?_); rintro e w' ⟨rfl, rfl⟩))
  go_ret
  exact ⟨rfl, rfl⟩
theorem rgood_20 (a b m : Int) (ha : 0 ≤ a ∧ a < 8) (hb : 0 ≤ b ∧ b < 8) (hm : 0 ≤ m ∧ m ≤ 2147483647) (w : World) : Calls Tryz.prog 75 #[.agg (insc ⟨20, a, b, 0, m⟩)] w fun e w' => e = .returned (.bool true) ∧ w' = w.alloc (.cells (insc ⟨20, a, b, 0, m⟩) 33) := by
  have hx : (w.alloc (.cells (insc ⟨20, a, b, 0, m⟩) 33)).heap[w.heap.size]? = some (.cells (insc ⟨20, a, b, 0, m⟩) 33 (0, 0)) := by simp
  have d1a : decide (0 ≤ a) = true := by simp; omega
  have d2a : decide (a ≤ 7) = true := by simp; omega
  have Ra := Lib.hid (fun w => rreg a w)
  rw [d1a, d2a] at Ra
  have d1b : decide (0 ≤ b) = true := by simp; omega
  have d2b : decide (b ≤ 7) = true := by simp; omega
  have Rb := Lib.hid (fun w => rreg b w)
  rw [d1b, d2b] at Rb
  have e1 : decide (-2147483648 ≤ m) = true := by simp; omega
  have e2 : decide (m < 2147483648) = true := by simp; omega
  have e3 : decide (0 ≤ m) = true := by simp; omega
  have LA : hasA 20 = true := by decide
  have LB : hasB 20 = true := by decide
  have LC : hasC 20 = false := by decide
  have LI : hasI 20 = true := by decide
  clear ha hb hm
  go_enter Tryz.func75, Tryz.ntmps75
  try dsimp only [List.append]
  go_wp2_with (first | (go_at_call 122; (with_reducible refine (rhas_A 20 (by omega) (by omega) _).mono ?_); rintro e w' ⟨rfl, rfl⟩) | (go_at_call 122; (with_reducible refine (rhas_B 20 (by omega) (by omega) _).mono ?_); rintro e w' ⟨rfl, rfl⟩) | (go_at_call 122; (with_reducible refine (rhas_C 20 (by omega) (by omega) _).mono ?_); rintro e w' ⟨rfl, rfl⟩) | (go_at_call 122; (with_reducible refine (rhas_I 20 (by omega) (by omega) _).mono ?_); rintro e w' ⟨rfl, rfl⟩) | (go_at_call 123; (with_reducible refine (Ra.out _).mono ?_); rintro e w' ⟨rfl, rfl⟩) | (go_at_call 123; (with_reducible refine (Rb.out _).mono ?_); rintro e w' ⟨rfl, rfl⟩))
  go_ret
  exact ⟨rfl, rfl⟩
theorem rgood_21 (a : Int) (ha : 0 ≤ a ∧ a < 8) (w : World) : Calls Tryz.prog 75 #[.agg (insc ⟨21, a, 0, 0, 0⟩)] w fun e w' => e = .returned (.bool true) ∧ w' = w.alloc (.cells (insc ⟨21, a, 0, 0, 0⟩) 33) := by
  have hx : (w.alloc (.cells (insc ⟨21, a, 0, 0, 0⟩) 33)).heap[w.heap.size]? = some (.cells (insc ⟨21, a, 0, 0, 0⟩) 33 (0, 0)) := by simp
  have d1a : decide (0 ≤ a) = true := by simp; omega
  have d2a : decide (a ≤ 7) = true := by simp; omega
  have Ra := Lib.hid (fun w => rreg a w)
  rw [d1a, d2a] at Ra
  have LA : hasA 21 = true := by decide
  have LB : hasB 21 = false := by decide
  have LC : hasC 21 = false := by decide
  have LI : hasI 21 = false := by decide
  clear ha
  go_enter Tryz.func75, Tryz.ntmps75
  try dsimp only [List.append]
  go_wp2_with (first | (go_at_call 122; (with_reducible refine (rhas_A 21 (by omega) (by omega) _).mono ?_); rintro e w' ⟨rfl, rfl⟩) | (go_at_call 122; (with_reducible refine (rhas_B 21 (by omega) (by omega) _).mono ?_); rintro e w' ⟨rfl, rfl⟩) | (go_at_call 122; (with_reducible refine (rhas_C 21 (by omega) (by omega) _).mono ?_); rintro e w' ⟨rfl, rfl⟩) | (go_at_call 122; (with_reducible refine (rhas_I 21 (by omega) (by omega) _).mono ?_); rintro e w' ⟨rfl, rfl⟩) | (go_at_call 123; (with_reducible refine (Ra.out _).mono ?_); rintro e w' ⟨rfl, rfl⟩))
  go_ret
  exact ⟨rfl, rfl⟩
theorem rgood_22  (w : World) : Calls Tryz.prog 75 #[.agg (insc ⟨22, 0, 0, 0, 0⟩)] w fun e w' => e = .returned (.bool true) ∧ w' = w.alloc (.cells (insc ⟨22, 0, 0, 0, 0⟩) 33) := by
  have hx : (w.alloc (.cells (insc ⟨22, 0, 0, 0, 0⟩) 33)).heap[w.heap.size]? = some (.cells (insc ⟨22, 0, 0, 0, 0⟩) 33 (0, 0)) := by simp
  have LA : hasA 22 = false := by decide
  have LB : hasB 22 = false := by decide
  have LC : hasC 22 = false := by decide
  have LI : hasI 22 = false := by decide
  go_enter Tryz.func75, Tryz.ntmps75
  try dsimp only [List.append]
  go_wp2_with (first | (go_at_call 122; (with_reducible refine (rhas_A 22 (by omega) (by omega) _).mono ?_); rintro e w' ⟨rfl, rfl⟩) | (go_at_call 122; (with_reducible refine (rhas_B 22 (by omega) (by omega) _).mono ?_); rintro e w' ⟨rfl, rfl⟩) | (go_at_call 122; (with_reducible refine (rhas_C 22 (by omega) (by omega) _).mono ?_); rintro e w' ⟨rfl, rfl⟩) | (go_at_call 122; (with_reducible refine (rhas_I 22 (by omega) (by omega) _).mono ?_); rintro e w' ⟨rfl, rfl⟩))
  go_ret
  exact ⟨rfl, rfl⟩
end Go.Proofs.YtcjoinhngdfdmaaGreatDoor
end
section
namespace Go.Proofs.YtcjoinhngdfdmaaGreatDoor
open Go.RowKit
set_option linter.unusedVariables false
set_option maxHeartbeats 1000000

set_option maxRecDepth 100000
attribute [local go_sem ↓] cell_row frozen_row heap_drew heap_drewN heap_alloc heap_past heap_setCell heap_putRow loadIns storeIns loadPts storePts insc_op insc_a insc_b insc_c insc_im pts_0 pts_1 pts_2 pts_3 pts_4
attribute [local go_sem] rowCell_some rowFrozen_some rowHas_some rowIn_some rowPart_full rowPart_lit rowPut_full rowPut_lit rowSet_some size_putRow run_loadS run_storeS loadW_at storeW_at fit_all fit_le one_int one_bool one_pointer one_slice allOne_list putRow_new ne_size1 ne_size2 ne_size3 ne_size4 wideIns widePts insc_size insc_one insc_ne insc_lit insc_z fold_insc insc_set0 insc_set1 insc_set2 insc_set3 insc_set4 pts_lit pts_size pts_one pts_ne pts_set0 pts_set1 pts_set2 pts_set3 pts_set4 fold_pts
attribute [local simp ↓] heap_drew heap_drewN heap_alloc heap_past heap_setCell heap_putRow
attribute [local simp] rowCell_some rowFrozen_some rowHas_some rowIn_some rowPart_full rowPart_lit rowPut_full rowPut_lit rowSet_some size_putRow fit_all putRow_new ne_size1 ne_size2 ne_size3 ne_size4 insc_size pts_size fit_le
attribute [local go_sem] insZ_op insZ_a insZ_b insZ_c insZ_im
theorem rgood_all (i : Ins) (h : goodI i = true) (w : World) : Calls Tryz.prog 75 #[.agg (insc i)] w fun e w' => e = .returned (.bool true) ∧ w' = w.alloc (.cells (insc i) 33) := by
  obtain ⟨op, a, b, c, m⟩ := i
  have hop := (goodI_parts h).1
  simp only [goodI, Bool.and_eq_true] at h
  obtain ⟨_, ha, hb, hc, hm⟩ := h
  simp only at hop ha hb hc hm
  have h : op = 0 ∨ op = 1 ∨ op = 2 ∨ op = 3 ∨ op = 4 ∨ op = 5 ∨ op = 6 ∨ op = 7 ∨ op = 8 ∨ op = 9 ∨ op = 10 ∨ op = 11 ∨ op = 12 ∨ op = 13 ∨ op = 14 ∨ op = 15 ∨ op = 16 ∨ op = 17 ∨ op = 18 ∨ op = 19 ∨ op = 20 ∨ op = 21 ∨ op = 22 := by omega
  clear hop
  rcases h with rfl | rfl | rfl | rfl | rfl | rfl | rfl | rfl | rfl | rfl | rfl | rfl | rfl | rfl | rfl | rfl | rfl | rfl | rfl | rfl | rfl | rfl | rfl
  · rw [show hasA 0 = false by decide] at ha
    obtain rfl : a = 0 := by simpa [goodR] using ha
    rw [show hasB 0 = false by decide] at hb
    obtain rfl : b = 0 := by simpa [goodR] using hb
    rw [show hasC 0 = false by decide] at hc
    obtain rfl : c = 0 := by simpa [goodR] using hc
    unfold goodM goodMb at hm
    rw [show hasI 0 = false by decide, show jumpB 0 = false by decide] at hm
    obtain rfl : m = 0 := by simpa using hm
    exact rgood_0   w
  · rw [show hasA 1 = true by decide] at ha
    have ha' := goodR_le ha
    rw [show hasB 1 = false by decide] at hb
    obtain rfl : b = 0 := by simpa [goodR] using hb
    rw [show hasC 1 = false by decide] at hc
    obtain rfl : c = 0 := by simpa [goodR] using hc
    unfold goodM goodMb at hm
    rw [show hasI 1 = true by decide, show jumpB 1 = false by decide] at hm
    have hm' : -2147483648 ≤ m ∧ m ≤ 2147483647 := by simp at hm; omega
    exact rgood_1 a m ha' hm' w
  · rw [show hasA 2 = true by decide] at ha
    have ha' := goodR_le ha
    rw [show hasB 2 = true by decide] at hb
    have hb' := goodR_le hb
    rw [show hasC 2 = true by decide] at hc
    have hc' := goodR_le hc
    unfold goodM goodMb at hm
    rw [show hasI 2 = false by decide, show jumpB 2 = false by decide] at hm
    obtain rfl : m = 0 := by simpa using hm
    exact rgood_2 a b c ha' hb' hc' w
  · rw [show hasA 3 = true by decide] at ha
    have ha' := goodR_le ha
    rw [show hasB 3 = true by decide] at hb
    have hb' := goodR_le hb
    rw [show hasC 3 = true by decide] at hc
    have hc' := goodR_le hc
    unfold goodM goodMb at hm
    rw [show hasI 3 = false by decide, show jumpB 3 = false by decide] at hm
    obtain rfl : m = 0 := by simpa using hm
    exact rgood_3 a b c ha' hb' hc' w
  · rw [show hasA 4 = true by decide] at ha
    have ha' := goodR_le ha
    rw [show hasB 4 = true by decide] at hb
    have hb' := goodR_le hb
    rw [show hasC 4 = true by decide] at hc
    have hc' := goodR_le hc
    unfold goodM goodMb at hm
    rw [show hasI 4 = false by decide, show jumpB 4 = false by decide] at hm
    obtain rfl : m = 0 := by simpa using hm
    exact rgood_4 a b c ha' hb' hc' w
  · rw [show hasA 5 = true by decide] at ha
    have ha' := goodR_le ha
    rw [show hasB 5 = true by decide] at hb
    have hb' := goodR_le hb
    rw [show hasC 5 = true by decide] at hc
    have hc' := goodR_le hc
    unfold goodM goodMb at hm
    rw [show hasI 5 = false by decide, show jumpB 5 = false by decide] at hm
    obtain rfl : m = 0 := by simpa using hm
    exact rgood_5 a b c ha' hb' hc' w
  · rw [show hasA 6 = true by decide] at ha
    have ha' := goodR_le ha
    rw [show hasB 6 = true by decide] at hb
    have hb' := goodR_le hb
    rw [show hasC 6 = true by decide] at hc
    have hc' := goodR_le hc
    unfold goodM goodMb at hm
    rw [show hasI 6 = false by decide, show jumpB 6 = false by decide] at hm
    obtain rfl : m = 0 := by simpa using hm
    exact rgood_6 a b c ha' hb' hc' w
  · rw [show hasA 7 = true by decide] at ha
    have ha' := goodR_le ha
    rw [show hasB 7 = true by decide] at hb
    have hb' := goodR_le hb
    rw [show hasC 7 = true by decide] at hc
    have hc' := goodR_le hc
    unfold goodM goodMb at hm
    rw [show hasI 7 = false by decide, show jumpB 7 = false by decide] at hm
    obtain rfl : m = 0 := by simpa using hm
    exact rgood_7 a b c ha' hb' hc' w
  · rw [show hasA 8 = true by decide] at ha
    have ha' := goodR_le ha
    rw [show hasB 8 = true by decide] at hb
    have hb' := goodR_le hb
    rw [show hasC 8 = false by decide] at hc
    obtain rfl : c = 0 := by simpa [goodR] using hc
    unfold goodM goodMb at hm
    rw [show hasI 8 = true by decide, show jumpB 8 = false by decide] at hm
    have hm' : -2147483648 ≤ m ∧ m ≤ 2147483647 := by simp at hm; omega
    exact rgood_8 a b m ha' hb' hm' w
  · rw [show hasA 9 = true by decide] at ha
    have ha' := goodR_le ha
    rw [show hasB 9 = true by decide] at hb
    have hb' := goodR_le hb
    rw [show hasC 9 = false by decide] at hc
    obtain rfl : c = 0 := by simpa [goodR] using hc
    unfold goodM goodMb at hm
    rw [show hasI 9 = true by decide, show jumpB 9 = false by decide] at hm
    have hm' : -2147483648 ≤ m ∧ m ≤ 2147483647 := by simp at hm; omega
    exact rgood_9 a b m ha' hb' hm' w
  · rw [show hasA 10 = true by decide] at ha
    have ha' := goodR_le ha
    rw [show hasB 10 = true by decide] at hb
    have hb' := goodR_le hb
    rw [show hasC 10 = true by decide] at hc
    have hc' := goodR_le hc
    unfold goodM goodMb at hm
    rw [show hasI 10 = false by decide, show jumpB 10 = false by decide] at hm
    obtain rfl : m = 0 := by simpa using hm
    exact rgood_10 a b c ha' hb' hc' w
  · rw [show hasA 11 = true by decide] at ha
    have ha' := goodR_le ha
    rw [show hasB 11 = true by decide] at hb
    have hb' := goodR_le hb
    rw [show hasC 11 = true by decide] at hc
    have hc' := goodR_le hc
    unfold goodM goodMb at hm
    rw [show hasI 11 = false by decide, show jumpB 11 = false by decide] at hm
    obtain rfl : m = 0 := by simpa using hm
    exact rgood_11 a b c ha' hb' hc' w
  · rw [show hasA 12 = false by decide] at ha
    obtain rfl : a = 0 := by simpa [goodR] using ha
    rw [show hasB 12 = true by decide] at hb
    have hb' := goodR_le hb
    rw [show hasC 12 = false by decide] at hc
    obtain rfl : c = 0 := by simpa [goodR] using hc
    unfold goodM goodMb at hm
    rw [show hasI 12 = true by decide, show jumpB 12 = false by decide] at hm
    have hm' : -2147483648 ≤ m ∧ m ≤ 2147483647 := by simp at hm; omega
    exact rgood_12 b m hb' hm' w
  · rw [show hasA 13 = false by decide] at ha
    obtain rfl : a = 0 := by simpa [goodR] using ha
    rw [show hasB 13 = true by decide] at hb
    have hb' := goodR_le hb
    rw [show hasC 13 = false by decide] at hc
    obtain rfl : c = 0 := by simpa [goodR] using hc
    unfold goodM goodMb at hm
    rw [show hasI 13 = true by decide, show jumpB 13 = false by decide] at hm
    have hm' : -2147483648 ≤ m ∧ m ≤ 2147483647 := by simp at hm; omega
    exact rgood_13 b m hb' hm' w
  · rw [show hasA 14 = false by decide] at ha
    obtain rfl : a = 0 := by simpa [goodR] using ha
    rw [show hasB 14 = true by decide] at hb
    have hb' := goodR_le hb
    rw [show hasC 14 = false by decide] at hc
    obtain rfl : c = 0 := by simpa [goodR] using hc
    unfold goodM goodMb at hm
    rw [show hasI 14 = true by decide, show jumpB 14 = false by decide] at hm
    have hm' : -2147483648 ≤ m ∧ m ≤ 2147483647 := by simp at hm; omega
    exact rgood_14 b m hb' hm' w
  · rw [show hasA 15 = false by decide] at ha
    obtain rfl : a = 0 := by simpa [goodR] using ha
    rw [show hasB 15 = false by decide] at hb
    obtain rfl : b = 0 := by simpa [goodR] using hb
    rw [show hasC 15 = false by decide] at hc
    obtain rfl : c = 0 := by simpa [goodR] using hc
    unfold goodM goodMb at hm
    rw [show hasI 15 = false by decide, show jumpB 15 = false by decide] at hm
    obtain rfl : m = 0 := by simpa using hm
    exact rgood_15   w
  · rw [show hasA 16 = false by decide] at ha
    obtain rfl : a = 0 := by simpa [goodR] using ha
    rw [show hasB 16 = false by decide] at hb
    obtain rfl : b = 0 := by simpa [goodR] using hb
    rw [show hasC 16 = false by decide] at hc
    obtain rfl : c = 0 := by simpa [goodR] using hc
    unfold goodM goodMb at hm
    rw [show hasI 16 = false by decide, show jumpB 16 = false by decide] at hm
    obtain rfl : m = 0 := by simpa using hm
    exact rgood_16   w
  · rw [show hasA 17 = false by decide] at ha
    obtain rfl : a = 0 := by simpa [goodR] using ha
    rw [show hasB 17 = false by decide] at hb
    obtain rfl : b = 0 := by simpa [goodR] using hb
    rw [show hasC 17 = false by decide] at hc
    obtain rfl : c = 0 := by simpa [goodR] using hc
    unfold goodM goodMb at hm
    rw [show hasI 17 = true by decide, show jumpB 17 = true by decide] at hm
    have hm' : 0 ≤ m ∧ m ≤ 2147483647 := by simp at hm; omega
    exact rgood_17 m hm' w
  · rw [show hasA 18 = true by decide] at ha
    have ha' := goodR_le ha
    rw [show hasB 18 = true by decide] at hb
    have hb' := goodR_le hb
    rw [show hasC 18 = false by decide] at hc
    obtain rfl : c = 0 := by simpa [goodR] using hc
    unfold goodM goodMb at hm
    rw [show hasI 18 = true by decide, show jumpB 18 = true by decide] at hm
    have hm' : 0 ≤ m ∧ m ≤ 2147483647 := by simp at hm; omega
    exact rgood_18 a b m ha' hb' hm' w
  · rw [show hasA 19 = true by decide] at ha
    have ha' := goodR_le ha
    rw [show hasB 19 = true by decide] at hb
    have hb' := goodR_le hb
    rw [show hasC 19 = false by decide] at hc
    obtain rfl : c = 0 := by simpa [goodR] using hc
    unfold goodM goodMb at hm
    rw [show hasI 19 = true by decide, show jumpB 19 = true by decide] at hm
    have hm' : 0 ≤ m ∧ m ≤ 2147483647 := by simp at hm; omega
    exact rgood_19 a b m ha' hb' hm' w
  · rw [show hasA 20 = true by decide] at ha
    have ha' := goodR_le ha
    rw [show hasB 20 = true by decide] at hb
    have hb' := goodR_le hb
    rw [show hasC 20 = false by decide] at hc
    obtain rfl : c = 0 := by simpa [goodR] using hc
    unfold goodM goodMb at hm
    rw [show hasI 20 = true by decide, show jumpB 20 = true by decide] at hm
    have hm' : 0 ≤ m ∧ m ≤ 2147483647 := by simp at hm; omega
    exact rgood_20 a b m ha' hb' hm' w
  · rw [show hasA 21 = true by decide] at ha
    have ha' := goodR_le ha
    rw [show hasB 21 = false by decide] at hb
    obtain rfl : b = 0 := by simpa [goodR] using hb
    rw [show hasC 21 = false by decide] at hc
    obtain rfl : c = 0 := by simpa [goodR] using hc
    unfold goodM goodMb at hm
    rw [show hasI 21 = false by decide, show jumpB 21 = false by decide] at hm
    obtain rfl : m = 0 := by simpa using hm
    exact rgood_21 a ha' w
  · rw [show hasA 22 = false by decide] at ha
    obtain rfl : a = 0 := by simpa [goodR] using ha
    rw [show hasB 22 = false by decide] at hb
    obtain rfl : b = 0 := by simpa [goodR] using hb
    rw [show hasC 22 = false by decide] at hc
    obtain rfl : c = 0 := by simpa [goodR] using hc
    unfold goodM goodMb at hm
    rw [show hasI 22 = false by decide, show jumpB 22 = false by decide] at hm
    obtain rfl : m = 0 := by simpa using hm
    exact rgood_22   w
theorem sum_code {i : Ins} (h : (0 ≤ i.op ∧ i.op ≤ 22) ∧ (0 ≤ i.a ∧ i.a < 8) ∧ (0 ≤ i.b ∧ i.b < 8) ∧ (0 ≤ i.c ∧ i.c < 8) ∧ -2147483648 ≤ i.im ∧ i.im ≤ 2147483647) (m : Int) (hm : m % 4294967296 = i.im % 4294967296) :
    IntKind.u64.wrap (IntKind.u64.wrap (IntKind.u64.wrap (IntKind.u64.wrap (IntKind.u64.wrap i.op + IntKind.u64.wrap (IntKind.u64.wrap i.a * 256)) + IntKind.u64.wrap (IntKind.u64.wrap i.b * 4096)) + IntKind.u64.wrap (IntKind.u64.wrap i.c * 65536)) + IntKind.u64.wrap (IntKind.u64.wrap m * 4294967296)) = codeI i := by
  simp only [u64_w]
  unfold codeI
  omega
theorem sum_code2 {i : Ins} (h : (0 ≤ i.op ∧ i.op ≤ 22) ∧ (0 ≤ i.a ∧ i.a < 8) ∧ (0 ≤ i.b ∧ i.b < 8) ∧ (0 ≤ i.c ∧ i.c < 8) ∧ -2147483648 ≤ i.im ∧ i.im ≤ 2147483647) (m : Int) (hm : m % 4294967296 = i.im % 4294967296) :
    IntKind.u64.wrap (IntKind.u64.wrap (IntKind.u64.wrap (IntKind.u64.wrap (IntKind.u64.wrap i.op + IntKind.u64.wrap (IntKind.u64.wrap i.a * 256)) + IntKind.u64.wrap (IntKind.u64.wrap i.b * 4096)) + IntKind.u64.wrap (IntKind.u64.wrap i.c * 65536)) + IntKind.u64.wrap (m * 4294967296)) = codeI i := by
  simp only [u64_w]
  unfold codeI
  omega
theorem rencode (i : Ins) (h : goodI i = true) (w : World) : Calls Tryz.prog 39 #[.agg (insc i)] w fun e w' => e = .returned (.tuple #[.int .u64 (codeI i), .int .i64 0]) ∧ Chg [] w w' := by
  have ⟨h1, h2, h3, h4, h5⟩ := goodI_parts h
  have hx : (w.alloc (.cells (insc i) 33)).heap[w.heap.size]? = some (.cells (insc i) 33 (0, 0)) := by simp
  have HC := Lib.hid ((Chg.refl [] w).alloc (.cells (insc i) 33))
  have HG := Lib.hid (fun w => rgood_all i h w)
  have HB := Lib.hid (show (0 ≤ i.op ∧ i.op ≤ 22) ∧ (0 ≤ i.a ∧ i.a < 8) ∧ (0 ≤ i.b ∧ i.b < 8) ∧ (0 ≤ i.c ∧ i.c < 8) ∧ -2147483648 ≤ i.im ∧ i.im ≤ 2147483647 from ⟨h1, h2, h3, h4, h5⟩)
  have k1 : -2147483648 ≤ i.im := h5.1
  have k2 : i.im ≤ 2147483647 := h5.2
  clear h h1 h2 h3 h4 h5
  cases hn : decide (i.im < 0)
  all_goals
    go_enter Tryz.func39, Tryz.ntmps39
    go_wp2_with fail
    generalize hw1 : w.alloc (.cells (insc i) 33) = w1 at hx HC ⊢
    generalize hz : w.heap.size = p at hx ⊢
    refine (HG.out w1).mono ?_
    rintro e w2 ⟨rfl, rfl⟩
    have hx2 := ((Chg.refl [] w1).alloc (.cells (insc i) 33)).keep hx (by simp)
    have HC2 := Lib.hid (HC.out.alloc (.cells (insc i) 33))
    have ox := old hx
    clear hw1 hz
    go_wp2_with fail
    go_ret2
    refine ⟨?_, HC2.out⟩
    first
      | (rw [sum_code HB.out i.im rfl]; rfl)
      | (rw [sum_code2 HB.out (i.im + 4294967296) (by omega)]; rfl)
end Go.Proofs.YtcjoinhngdfdmaaGreatDoor
end
