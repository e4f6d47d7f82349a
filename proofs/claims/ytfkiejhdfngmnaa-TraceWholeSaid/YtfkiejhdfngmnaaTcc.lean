/- Package trace's small calls, lists compared, tells counted: walked. No condition. -/
import Derived.Test.YtfkiejhdfngmnaaTcb
import Derived.Test.YtfkiejhdfngmnaaChecked
import Derived.Laws.LoneSync
import Derived.Lib.SliceRun
import Derived.Deep.RegionHeld3
import Derived.Deep.RegionWith
import Derived.Laws.StructEq
import Derived.ChangeKeysEq
import Derived.BigQuiet
import Derived.BigRegion
import Derived.Deep.QuietTactic
import Derived.WalkKit
import Derived.Deep.Cut
import Derived.Deep.CutBlock
import Derived.Deep.CutRange
import Derived.Deep.DeepCutAuto
import Derived.Deep.RegionLaw
namespace Go.Proofs.Ytfkiejhdfngmnaa
open Go.RowKit
set_option linter.unusedVariables false
set_option maxHeartbeats 1000000

theorem ev_eqIn (a b : Ev) (w : World) : (Op.equalIn 10000 29 (.agg (evc a)) (.agg (evc b))).run Try.prog w = .ok (decide (a = b)) w := by
  have h0 := fun a => run_part_plain (P := Try.prog) w (e := 3) (by kernel_rfl) (evc_kd a)
  have h1 := fun a => run_part_plain (P := Try.prog) w (e := 3) (by kernel_rfl) (evc_co a)
  have h2 := fun a => run_part_plain (P := Try.prog) w (e := 3) (by kernel_rfl) (evc_li a)
  have h3 := fun a => run_part_plain (P := Try.prog) w (e := 3) (by kernel_rfl) (evc_wo a)
  have h4 := fun a => run_part_plain (P := Try.prog) w (e := 27) (by kernel_rfl) (evc_va a)
  have e0 := fun a b => run_equalIn_int w 9998 3 .i64 .i64 a b Try.underlying3
  have e1 := fun a b => run_equalIn_int w 9998 27 .u64 .u64 a b Try.underlying27
  rw [run_equalIn_struct w 9999 29 _ _ (by simp only [Program.fieldsOf, Try.underlying29]) (by kernel_rfl)]
  simp only [Program.fieldsOf, Try.underlying29]
  cases a; cases b
  rename_i x1 x2 x3 x4 x5 y1 y2 y3 y4 y5
  simp [Op.eqFields, h0, h1, h2, h3, h4, e0, e1]
  by_cases x : x1 = y1 <;> by_cases y : x2 = y2 <;> by_cases z : x3 = y3 <;> by_cases u : x4 = y4 <;> by_cases v : x5 = y5 <;> simp [*]
set_option maxRecDepth 100000
attribute [local go_sem ↓] append_appS copy_copS clear_clrS make_mkS cell_row frozen_row heap_drew heap_drewN heap_alloc heap_past heap_setCell heap_putRow loadEv storeEv evc_kd evc_co evc_li evc_wo evc_va
attribute [local go_sem] rowCell_some rowFrozen_some rowHas_some rowIn_some rowPart_full rowPart_lit rowPut_full rowPut_lit rowSet_some size_putRow run_loadS run_storeS run_appS run_copS run_clrS run_mkS loadW_at storeW_at fit_all fit_le one_int one_bool one_pointer one_slice allOne_list putRow_new ne_size1 ne_size2 ne_size3 ne_size4 wideEv evc_size evc_one evc_ne evc_lit evc_z evc_set0 evc_set1 evc_set2 evc_set3 evc_set4 evZ_kd evZ_co evZ_li evZ_wo evZ_va fold_evc
attribute [local simp ↓] heap_drew heap_drewN heap_alloc heap_past heap_setCell heap_putRow
attribute [local simp] rowCell_some rowFrozen_some rowHas_some rowIn_some rowPart_full rowPart_lit rowPut_full rowPut_lit rowSet_some size_putRow fit_all putRow_new ne_size1 ne_size2 ne_size3 ne_size4 evc_size fit_le
attribute [local go_sem ↓] ev_eqIn
theorem of_any {A : Option Addr} {n cap : Nat} (xs : List Ev) (k c : Int) (w : World) (hs : Sl w 5 A n (cat Ev.enc xs)) (hl : xs.length = n) (h5 : n ≤ 100000) :
    Calls Try.prog 7 #[.slice A n cap, .int .i64 k, .int .i64 c] w (ToldS 5 Ev.enc w (ofE k c xs)) := by
  have HS := Lib.hid hs
  have HL := Lib.hid hl
  clear hs hl
  obtain ⟨p1, p2, c1⟩ := two_new w (.cells #[.int .i64 k] 3) (.cells #[.int .i64 c] 3)
  have P1 := Lib.hid p1
  have P2 := Lib.hid p2
  have C1 := Lib.hid c1
  clear p1 p2 c1
  go_enter Try.func7, Try.ntmps7
  go_wp2_with fail
  generalize ((w.alloc (.cells #[.int .i64 k] 3)).alloc (.cells #[.int .i64 c] 3)) = w1 at *
  refine (choose_of (n := n) xs k c w.heap.size (w.heap.size + 1) w1 P1.out P2.out (HS.out.chg C1.out (by simp)) HL.out h5).mono ?_
  rintro e w2 ⟨A2, cp2, rfl, hs2, c2⟩
  go_wp2_with fail
  go_ret
  exact ⟨A2, cp2, rfl, hs2, C1.out.trans c2⟩
theorem stores_any {A : Option Addr} {n cap : Nat} (xs : List Ev) (k c : Int) (w : World) (hs : Sl w 5 A n (cat Ev.enc xs)) (hl : xs.length = n) (h5 : n ≤ 100000) :
    Calls Try.prog 12 #[.slice A n cap, .int .i64 k, .int .i64 c] w (ToldS 1 ue w (storeV k c xs)) := by
  have HS := Lib.hid hs
  have HL := Lib.hid hl
  clear hs hl
  obtain ⟨p1, p2, c1⟩ := two_new w (.cells #[.int .i64 k] 3) (.cells #[.int .i64 c] 3)
  have P1 := Lib.hid p1
  have P2 := Lib.hid p2
  have C1 := Lib.hid c1
  clear p1 p2 c1
  go_enter Try.func12, Try.ntmps12
  go_wp2_with fail
  generalize ((w.alloc (.cells #[.int .i64 k] 3)).alloc (.cells #[.int .i64 c] 3)) = w1 at *
  refine (choose_store (n := n) xs k c w.heap.size (w.heap.size + 1) w1 P1.out P2.out (HS.out.chg C1.out (by simp)) HL.out h5).mono ?_
  rintro e w2 ⟨A2, cp2, rfl, hs2, c2⟩
  go_wp2_with fail
  go_ret
  exact ⟨A2, cp2, rfl, hs2, C1.out.trans c2⟩
theorem tells_any {A : Option Addr} {n cap : Nat} (xs : List Ev) (c : Int) (w : World) (hs : Sl w 5 A n (cat Ev.enc xs)) (hl : xs.length = n) (h5 : n ≤ 100000) :
    Calls Try.prog 9 #[.slice A n cap, .int .i64 c] w (ToldS 1 ue w (tellV c xs)) := by
  have HS := Lib.hid hs
  have HL := Lib.hid hl
  clear hs hl
  have p1 : (w.alloc (.cells #[.int .i64 c] 3)).heap[w.heap.size]? = some (.cells #[.int .i64 c] 3 (0, 0)) := (MapKept.heap_alloc w _).1
  have P1 := Lib.hid p1
  have C1 := Lib.hid ((Chg.refl [] w).alloc (.cells #[.int .i64 c] 3))
  clear p1
  go_enter Try.func9, Try.ntmps9
  go_wp2_with fail
  generalize (w.alloc (.cells #[.int .i64 c] 3)) = w1 at *
  refine (choose_tell (n := n) xs c w.heap.size w1 P1.out (HS.out.chg C1.out (by simp)) HL.out h5).mono ?_
  rintro e w2 ⟨A2, cp2, rfl, hs2, c2⟩
  go_wp2_with fail
  go_ret
  exact ⟨A2, cp2, rfl, hs2, C1.out.trans c2⟩
theorem eqs_same {A B : Option Addr} {n c c' : Nat} (xs : List Ev) (w : World) (h1 : Sl w 5 A n (cat Ev.enc xs)) (h2 : Sl w 5 B n (cat Ev.enc xs)) (hl : xs.length = n) (h5 : n ≤ 100000) :
    Calls Try.prog 19 #[.slice A n c, .slice B n c'] w fun e w' => e = .returned (.bool true) ∧ Chg [] w w' := by
  have H1 := Lib.hid h1
  have H2 := Lib.hid h2
  have HL := Lib.hid hl
  clear h1 h2 hl
  go_enter Try.func19, Try.ntmps19
  have tn : ((n : Int) != (n : Int)) = false := by simp
  go_wp2
  go_loopw [5, 13] (fun _ i wr => ∃ k : Nat, k ≤ n ∧ i = .int .i64 k ∧ Chg [] w wr) (fun _ i _ => n - (intOf i).toNat)
  case atStart => exact ⟨0, by omega, rfl, Chg.refl _ _⟩
  case round =>
    obtain ⟨k, hk, rfl, hc⟩ := hrel
    by_cases hlt : k < n
    · obtain ⟨b, o, rfl⟩ := H1.out.addr (by omega)
      obtain ⟨b', o', rfl⟩ := H2.out.addr (by omega)
      obtain ⟨x, hx⟩ : ∃ x, xs[k]? = some x := ⟨xs[k]'(by rw [HL.out]; exact hlt), List.getElem?_eq_getElem _⟩
      obtain ⟨cs, t, f, hb, _, hpa⟩ := (H1.out.chg hc (by simp)).elem (by omega) hlt (cat_part Ev.len hx)
      obtain ⟨cs', t', f', hb', _, hpa'⟩ := (H2.out.chg hc (by simp)).elem (by omega) hlt (cat_part Ev.len hx)
      obtain ⟨r1, r2⟩ := hpa 0 5 (by omega)
      obtain ⟨s1, s2⟩ := hpa' 0 5 (by omega)
      rw [show ((Ev.enc x).drop 0 |>.take 5).toArray = evc x from rfl, Nat.add_zero] at r2 s2
      rw [Nat.add_zero] at r1 s1
      have g1 : (k : Int) < (n : Int) := by omega
      have g0 : (0 : Int) ≤ (k : Int) := by omega
      have g2 : (n : Int) ≤ 100000 := by omega
      have HC := Lib.hid hc
      have HK := Lib.hid hlt
      have tq : decide (x = x) = true := by simp
      clear hx hc hpa hpa' hlt hk
      go_wp2
      go_quiet (fail)
      go_wp2
      go_roundw
      case rel => exact ⟨k + 1, by have := HK.out; omega, by go_num, HC.out.drewN _⟩
      case measure => have := HK.out; simp [intOf]; omega
    · have : k = n := by omega
      subst this
      go_wp2
      go_ret
      exact ⟨rfl, hc⟩
theorem same_same {A B : Option Addr} {n c c' : Nat} (xs : List Ev) (w : World) (h1 : Sl w 5 A n (cat Ev.enc xs)) (h2 : Sl w 5 B n (cat Ev.enc xs)) (hl : xs.length = n) (h5 : n ≤ 100000) :
    Calls Try.prog 10 #[.slice A n c, .slice B n c'] w fun e w' => e = .returned (.bool true) ∧ Chg [] w w' := by
  have H1 := Lib.hid h1
  have H2 := Lib.hid h2
  clear h1 h2
  go_enter Try.func10, Try.ntmps10
  go_wp2_with fail
  refine (eqs_same xs w H1.out H2.out hl h5).mono ?_
  rintro e w2 ⟨rfl, c2⟩
  go_wp2_with fail
  go_ret
  exact ⟨rfl, c2⟩
theorem words_same {A B : Option Addr} {n c c' : Nat} (xs : List Int) (w : World) (h1 : Sl w 1 A n (cat ue xs)) (h2 : Sl w 1 B n (cat ue xs)) (hl : xs.length = n) (h5 : n ≤ 100000) :
    Calls Try.prog 8 #[.slice A n c, .slice B n c'] w fun e w' => e = .returned (.bool true) ∧ Chg [] w w' := by
  have H1 := Lib.hid h1
  have H2 := Lib.hid h2
  have HL := Lib.hid hl
  clear h1 h2 hl
  go_enter Try.func8, Try.ntmps8
  have tn : ((n : Int) != (n : Int)) = false := by simp
  go_wp2
  go_loopw [5] (fun i wr => ∃ k : Nat, k ≤ n ∧ i = .int .i64 k ∧ Chg [] w wr) (fun i _ => n - (intOf i).toNat)
  case atStart => exact ⟨0, by omega, rfl, Chg.refl _ _⟩
  case round =>
    obtain ⟨k, hk, rfl, hc⟩ := hrel
    by_cases hlt : k < n
    · obtain ⟨b, o, rfl⟩ := H1.out.addr (by omega)
      obtain ⟨b', o', rfl⟩ := H2.out.addr (by omega)
      obtain ⟨x, hx⟩ : ∃ x, xs[k]? = some x := ⟨xs[k]'(by rw [HL.out]; exact hlt), List.getElem?_eq_getElem _⟩
      obtain ⟨cs, t, f, hb, hi, _⟩ := (H1.out.chg hc (by simp)).elem (by omega) hlt (cat_part ue_len hx)
      obtain ⟨cs', t', f', hb', hi', _⟩ := (H2.out.chg hc (by simp)).elem (by omega) hlt (cat_part ue_len hx)
      have r1 : cs[o + k]? = some (.int .u64 x) := by have := hi 0 (by omega); simpa [ue] using this
      have r2 : cs'[o' + k]? = some (.int .u64 x) := by have := hi' 0 (by omega); simpa [ue] using this
      have g1 : (k : Int) < (n : Int) := by omega
      have g0 : (0 : Int) ≤ (k : Int) := by omega
      have g2 : (n : Int) ≤ 100000 := by omega
      have HC := Lib.hid hc
      have HK := Lib.hid hlt
      clear hx hc hi hi' hlt hk
      go_wp2
      go_quiet (fail)
      go_wp2
      go_roundw
      case rel => exact ⟨k + 1, by have := HK.out; omega, by go_num, HC.out.drewN _⟩
      case measure => have := HK.out; simp [intOf]; omega
    · have : k = n := by omega
      subst this
      go_wp2
      go_ret
      exact ⟨rfl, hc⟩
theorem told_any {A : Option Addr} {n cap : Nat} (xs : List Ev) (c : Int) (w : World) (hs : Sl w 5 A n (cat Ev.enc xs)) (hl : xs.length = n) (h5 : n ≤ 100000) :
    Calls Try.prog 11 #[.slice A n cap, .int .i64 c] w fun e w' => e = .returned (.int .i64 ((xs.filter (toldP c)).length : Nat)) ∧ Chg [] w w' := by
  have HS := Lib.hid hs
  have HL := Lib.hid hl
  have gN : (n : Int) ≤ 100000 := by omega
  clear hs hl
  go_enter Try.func11, Try.ntmps11
  go_wp2_with fail
  go_loopw [5, 6] (fun v i wr => ∃ k : Nat, k ≤ n ∧ i = .int .i64 k ∧ v = .int .i64 ((((xs.take k).filter (toldP c)).length : Nat) : Int) ∧ Chg [] w wr) (fun _ i _ => n - (intOf i).toNat)
  case atStart => exact ⟨0, by omega, rfl, rfl, Chg.refl _ _⟩
  case round =>
    obtain ⟨k, hk, rfl, rfl, hc⟩ := hrel
    have hle := filter_le (toldP c) xs k
    by_cases hlt : k < n
    · obtain ⟨b, o, rfl⟩ := HS.out.addr (by omega)
      obtain ⟨x, hx⟩ : ∃ x, xs[k]? = some x := ⟨xs[k]'(by rw [HL.out]; exact hlt), List.getElem?_eq_getElem _⟩
      obtain ⟨cs, t, f, hb, hi, _⟩ := (HS.out.chg hc (by simp)).elem (by omega) hlt (cat_part Ev.len hx)
      have r1 : cs[o + k * 5]? = some (.int .i64 x.kd) := by have := hi 0 (by omega); rw [Nat.add_zero] at this; rw [this]; rfl
      have r2 : cs[o + k * 5 + 1]? = some (.int .i64 x.co) := by have := hi 1 (by omega); rw [this]; rfl
      have g1 : (k : Int) < (n : Int) := by omega
      have g0 : (0 : Int) ≤ (k : Int) := by omega
      have HC := Lib.hid hc
      have HK := Lib.hid hlt
      have HX := Lib.hid hx
      have HP := Lib.hid (show toldP c x = (c == -1 && x.kd == 8 && !(x.co == -1)) from rfl)
      generalize hm : ((xs.take k).filter (toldP c)).length = m at hle ⊢
      have HM := Lib.hid hm
      have gM : (m : Int) ≤ 100000 := by omega
      have gM0 : (0 : Int) ≤ (m : Int) := by omega
      clear hx hc hi hlt hk hle hm
      by_cases d1 : c = -1
      · by_cases d2 : x.kd = 8
        · by_cases d3 : x.co = -1
          · have t1 : (c == -1) = true := by simpa using d1
            have t2 : (x.kd == 8) = true := by simpa using d2
            have t3 : (x.co != -1) = false := by simp [d3]
            have HN := Lib.hid (show ((xs.take (k + 1)).filter (toldP c)).length = m by rw [filter_no HX.out (by rw [HP.out]; simp [d1, d2, d3])]; exact HM.out)
            clear d1 d2 d3
            go_wp2_with fail
            go_roundw
            case rel => exact ⟨k + 1, by have := HK.out; omega, by go_num, by rw [HN.out], HC.out⟩
            case measure => have := HK.out; simp [intOf]; omega
          · have t1 : (c == -1) = true := by simpa using d1
            have t2 : (x.kd == 8) = true := by simpa using d2
            have t3 : (x.co != -1) = true := by simpa using d3
            have HN := Lib.hid (show ((xs.take (k + 1)).filter (toldP c)).length = m + 1 by rw [filter_yes HX.out (by rw [HP.out]; simp [d1, d2, d3]), List.length_append, HM.out]; rfl)
            clear d1 d2 d3
            go_wp2_with fail
            go_roundw
            case rel => exact ⟨k + 1, by have := HK.out; omega, by go_num, by rw [HN.out]; go_num, HC.out⟩
            case measure => have := HK.out; simp [intOf]; omega
        · have t1 : (c == -1) = true := by simpa using d1
          have t2 : (x.kd == 8) = false := by simpa using d2
          have HN := Lib.hid (show ((xs.take (k + 1)).filter (toldP c)).length = m by rw [filter_no HX.out (by rw [HP.out, t2]; simp)]; exact HM.out)
          clear d1 d2
          go_wp2_with fail
          go_roundw
          case rel => exact ⟨k + 1, by have := HK.out; omega, by go_num, by rw [HN.out], HC.out⟩
          case measure => have := HK.out; simp [intOf]; omega
      · have t1 : (c == -1) = false := by simpa using d1
        have HN := Lib.hid (show ((xs.take (k + 1)).filter (toldP c)).length = m by rw [filter_no HX.out (by rw [HP.out, t1]; simp)]; exact HM.out)
        clear d1
        go_wp2_with fail
        go_roundw
        case rel => exact ⟨k + 1, by have := HK.out; omega, by go_num, by rw [HN.out], HC.out⟩
        case measure => have := HK.out; simp [intOf]; omega
    · have : k = n := by omega
      subst this
      have e1 : xs.take k = xs := List.take_of_length_le (by rw [HL.out]; exact Nat.le_refl _)
      rw [e1]
      go_wp2_with fail
      go_ret
      exact ⟨rfl, hc⟩
end Go.Proofs.Ytfkiejhdfngmnaa
