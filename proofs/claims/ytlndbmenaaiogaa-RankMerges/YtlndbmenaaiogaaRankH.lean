/- What rank.Check answers (written by wip/mkchk.py). -/
import Derived.Test.YtlndbmenaaiogaaRankK
namespace Go.Proofs.Ytlndbmenaaiogaa
open Go.RowKit
set_option linter.unusedVariables false

set_option maxHeartbeats 2000000 in
theorem check_k (tv lv : Value) (k n sl : Int) (w : World) (hk : decide (2 ≤ k ∧ k ≤ 64) = false) :
    Calls Try.prog 13 #[.agg #[.int .i64 k, tv, lv, .int .i64 n, .int .i64 sl]] w fun e w' => e = .returned (.int .i64 4) ∧ Below w.heap.size w w' := by
  have HK := hide (fun wx => isK_any k wx)
  rw [hk] at HK
  obtain ⟨b0, b1, b2, b3, b4⟩ := box5 (w := w) (c0 := .int .i64 k) (c1 := tv) (c2 := lv) (c3 := .int .i64 n) (c4 := .int .i64 sl) (t := 25)
  have hB0 := (Below.refl _ w).alloc (Nat.le_refl _) (.cells #[.int .i64 k, tv, lv, .int .i64 n, .int .i64 sl] 25)
  clear hk
  go_enter Try.func13, Try.ntmps13
  go_wp2
  generalize (w.alloc (.cells #[.int .i64 k, tv, lv, .int .i64 n, .int .i64 sl] 25)) = W0 at *
  have x0 : W0.drew.cell? ⟨w.heap.size, 0, none⟩ = some (.int .i64 k) := b0
  have x1 : W0.drew.cell? ⟨w.heap.size, 1, none⟩ = some (tv) := b1
  have x2 : W0.drew.cell? ⟨w.heap.size, 2, none⟩ = some (lv) := b2
  have x3 : W0.drew.cell? ⟨w.heap.size, 3, none⟩ = some (.int .i64 n) := b3
  have x4 : W0.drew.cell? ⟨w.heap.size, 4, none⟩ = some (.int .i64 sl) := b4
  first | (go_region_with (first
    | (go_at_call 26; refine (HK.out _).mono ?_; rintro e wk ⟨rfl, rfl⟩))) | fail
  all_goals go_wp2
  all_goals go_ret
  all_goals exact ⟨rfl, below_dr hB0⟩
set_option maxHeartbeats 2000000 in
theorem check_t (tv lv : Value) (k n sl : Int) (w : World) (hk : decide (2 ≤ k ∧ k ≤ 64) = true) (HT : Hid (∀ wx, Below w.heap.size w wx → Calls Try.prog 32 #[.agg #[.int .i64 k, tv, lv, .int .i64 n, .int .i64 sl]] wx fun e w' => e = .returned (.bool false) ∧ Below wx.heap.size wx w')) :
    Calls Try.prog 13 #[.agg #[.int .i64 k, tv, lv, .int .i64 n, .int .i64 sl]] w fun e w' => e = .returned (.int .i64 4) ∧ Below w.heap.size w w' := by
  have HK := hide (fun wx => isK_any k wx)
  rw [hk] at HK
  obtain ⟨b0, b1, b2, b3, b4⟩ := box5 (w := w) (c0 := .int .i64 k) (c1 := tv) (c2 := lv) (c3 := .int .i64 n) (c4 := .int .i64 sl) (t := 25)
  have hB0 := (Below.refl _ w).alloc (Nat.le_refl _) (.cells #[.int .i64 k, tv, lv, .int .i64 n, .int .i64 sl] 25)
  clear hk
  go_enter Try.func13, Try.ntmps13
  go_wp2
  generalize (w.alloc (.cells #[.int .i64 k, tv, lv, .int .i64 n, .int .i64 sl] 25)) = W0 at *
  have x0 : W0.drew.cell? ⟨w.heap.size, 0, none⟩ = some (.int .i64 k) := b0
  have x1 : W0.drew.cell? ⟨w.heap.size, 1, none⟩ = some (tv) := b1
  have x2 : W0.drew.cell? ⟨w.heap.size, 2, none⟩ = some (lv) := b2
  have x3 : W0.drew.cell? ⟨w.heap.size, 3, none⟩ = some (.int .i64 n) := b3
  have x4 : W0.drew.cell? ⟨w.heap.size, 4, none⟩ = some (.int .i64 sl) := b4
  first | (go_region_with (first
    | (go_at_call 32; refine (HT.out _ (below_dr hB0)).mono ?_; rintro e wc ⟨rfl, qc⟩; have hBc := Below.next (below_dr hB0) qc; have c0 := keep_cell (w := W0.drew) b0 qc; have c1 := keep_cell (w := W0.drew) b1 qc; have c2 := keep_cell (w := W0.drew) b2 qc; have c3 := keep_cell (w := W0.drew) b3 qc; have c4 := keep_cell (w := W0.drew) b4 qc; clear qc)
    | (go_at_call 26; refine (HK.out _).mono ?_; rintro e wk ⟨rfl, rfl⟩))) | fail
  all_goals go_wp2
  all_goals go_ret
  all_goals exact ⟨rfl, hBc⟩
set_option maxHeartbeats 2000000 in
theorem check_l (tv lv : Value) (k n sl : Int) (w : World) (hk : decide (2 ≤ k ∧ k ≤ 64) = true) (HT : Hid (∀ wx, Below w.heap.size w wx → Calls Try.prog 32 #[.agg #[.int .i64 k, tv, lv, .int .i64 n, .int .i64 sl]] wx fun e w' => e = .returned (.bool true) ∧ Below wx.heap.size wx w')) (HL : Hid (∀ wx, Below w.heap.size w wx → Calls Try.prog 33 #[.agg #[.int .i64 k, tv, lv, .int .i64 n, .int .i64 sl]] wx fun e w' => e = .returned (.bool false) ∧ Below wx.heap.size wx w')) :
    Calls Try.prog 13 #[.agg #[.int .i64 k, tv, lv, .int .i64 n, .int .i64 sl]] w fun e w' => e = .returned (.int .i64 4) ∧ Below w.heap.size w w' := by
  have HK := hide (fun wx => isK_any k wx)
  rw [hk] at HK
  obtain ⟨b0, b1, b2, b3, b4⟩ := box5 (w := w) (c0 := .int .i64 k) (c1 := tv) (c2 := lv) (c3 := .int .i64 n) (c4 := .int .i64 sl) (t := 25)
  have hB0 := (Below.refl _ w).alloc (Nat.le_refl _) (.cells #[.int .i64 k, tv, lv, .int .i64 n, .int .i64 sl] 25)
  clear hk
  go_enter Try.func13, Try.ntmps13
  go_wp2
  generalize (w.alloc (.cells #[.int .i64 k, tv, lv, .int .i64 n, .int .i64 sl] 25)) = W0 at *
  have x0 : W0.drew.cell? ⟨w.heap.size, 0, none⟩ = some (.int .i64 k) := b0
  have x1 : W0.drew.cell? ⟨w.heap.size, 1, none⟩ = some (tv) := b1
  have x2 : W0.drew.cell? ⟨w.heap.size, 2, none⟩ = some (lv) := b2
  have x3 : W0.drew.cell? ⟨w.heap.size, 3, none⟩ = some (.int .i64 n) := b3
  have x4 : W0.drew.cell? ⟨w.heap.size, 4, none⟩ = some (.int .i64 sl) := b4
  first | (go_region_with (first
    | (go_at_call 33; refine (HL.out _ (hBc)).mono ?_; rintro e wd ⟨rfl, qd⟩; have hBd := Below.next (hBc) qd; have d0 := keep_cell c0 qd; have d1 := keep_cell c1 qd; have d2 := keep_cell c2 qd; have d3 := keep_cell c3 qd; have d4 := keep_cell c4 qd; clear qd)
    | (go_at_call 32; refine (HT.out _ (below_dr hB0)).mono ?_; rintro e wc ⟨rfl, qc⟩; have hBc := Below.next (below_dr hB0) qc; have c0 := keep_cell (w := W0.drew) b0 qc; have c1 := keep_cell (w := W0.drew) b1 qc; have c2 := keep_cell (w := W0.drew) b2 qc; have c3 := keep_cell (w := W0.drew) b3 qc; have c4 := keep_cell (w := W0.drew) b4 qc; clear qc)
    | (go_at_call 26; refine (HK.out _).mono ?_; rintro e wk ⟨rfl, rfl⟩))) | fail
  all_goals go_wp2
  all_goals go_ret
  all_goals exact ⟨rfl, hBd⟩
set_option maxHeartbeats 2000000 in
theorem check_n (tv lv : Value) (k n sl : Int) (w : World) (hk : decide (2 ≤ k ∧ k ≤ 64) = true) (HT : Hid (∀ wx, Below w.heap.size w wx → Calls Try.prog 32 #[.agg #[.int .i64 k, tv, lv, .int .i64 n, .int .i64 sl]] wx fun e w' => e = .returned (.bool true) ∧ Below wx.heap.size wx w')) (HL : Hid (∀ wx, Below w.heap.size w wx → Calls Try.prog 33 #[.agg #[.int .i64 k, tv, lv, .int .i64 n, .int .i64 sl]] wx fun e w' => e = .returned (.bool true) ∧ Below wx.heap.size wx w')) (c : Int) (HC : Hid (∀ wx, Below w.heap.size w wx → Calls Try.prog 34 #[.agg #[.int .i64 k, tv, lv, .int .i64 n, .int .i64 sl]] wx fun e w' => e = .returned (.int .i64 c) ∧ Below wx.heap.size wx w')) (hn : (n != c) = true) :
    Calls Try.prog 13 #[.agg #[.int .i64 k, tv, lv, .int .i64 n, .int .i64 sl]] w fun e w' => e = .returned (.int .i64 4) ∧ Below w.heap.size w w' := by
  have HK := hide (fun wx => isK_any k wx)
  rw [hk] at HK
  obtain ⟨b0, b1, b2, b3, b4⟩ := box5 (w := w) (c0 := .int .i64 k) (c1 := tv) (c2 := lv) (c3 := .int .i64 n) (c4 := .int .i64 sl) (t := 25)
  have hB0 := (Below.refl _ w).alloc (Nat.le_refl _) (.cells #[.int .i64 k, tv, lv, .int .i64 n, .int .i64 sl] 25)
  clear hk
  go_enter Try.func13, Try.ntmps13
  go_wp2
  generalize (w.alloc (.cells #[.int .i64 k, tv, lv, .int .i64 n, .int .i64 sl] 25)) = W0 at *
  have x0 : W0.drew.cell? ⟨w.heap.size, 0, none⟩ = some (.int .i64 k) := b0
  have x1 : W0.drew.cell? ⟨w.heap.size, 1, none⟩ = some (tv) := b1
  have x2 : W0.drew.cell? ⟨w.heap.size, 2, none⟩ = some (lv) := b2
  have x3 : W0.drew.cell? ⟨w.heap.size, 3, none⟩ = some (.int .i64 n) := b3
  have x4 : W0.drew.cell? ⟨w.heap.size, 4, none⟩ = some (.int .i64 sl) := b4
  first | (go_region_with (first
    | (go_at_call 34; refine (HC.out _ (hBd)).mono ?_; rintro e we ⟨rfl, qe⟩; have hBe := Below.next (hBd) qe; have e0 := keep_cell d0 qe; have e1 := keep_cell d1 qe; have e2 := keep_cell d2 qe; have e3 := keep_cell d3 qe; have e4 := keep_cell d4 qe; clear qe)
    | (go_at_call 33; refine (HL.out _ (hBc)).mono ?_; rintro e wd ⟨rfl, qd⟩; have hBd := Below.next (hBc) qd; have d0 := keep_cell c0 qd; have d1 := keep_cell c1 qd; have d2 := keep_cell c2 qd; have d3 := keep_cell c3 qd; have d4 := keep_cell c4 qd; clear qd)
    | (go_at_call 32; refine (HT.out _ (below_dr hB0)).mono ?_; rintro e wc ⟨rfl, qc⟩; have hBc := Below.next (below_dr hB0) qc; have c0 := keep_cell (w := W0.drew) b0 qc; have c1 := keep_cell (w := W0.drew) b1 qc; have c2 := keep_cell (w := W0.drew) b2 qc; have c3 := keep_cell (w := W0.drew) b3 qc; have c4 := keep_cell (w := W0.drew) b4 qc; clear qc)
    | (go_at_call 26; refine (HK.out _).mono ?_; rintro e wk ⟨rfl, rfl⟩))) | fail
  all_goals go_wp2
  all_goals go_ret
  all_goals exact ⟨rfl, hBe⟩
set_option maxHeartbeats 2000000 in
theorem check_neg (tv lv : Value) (k n sl : Int) (w : World) (hk : decide (2 ≤ k ∧ k ≤ 64) = true) (HT : Hid (∀ wx, Below w.heap.size w wx → Calls Try.prog 32 #[.agg #[.int .i64 k, tv, lv, .int .i64 n, .int .i64 sl]] wx fun e w' => e = .returned (.bool true) ∧ Below wx.heap.size wx w')) (HL : Hid (∀ wx, Below w.heap.size w wx → Calls Try.prog 33 #[.agg #[.int .i64 k, tv, lv, .int .i64 n, .int .i64 sl]] wx fun e w' => e = .returned (.bool true) ∧ Below wx.heap.size wx w')) (c : Int) (HC : Hid (∀ wx, Below w.heap.size w wx → Calls Try.prog 34 #[.agg #[.int .i64 k, tv, lv, .int .i64 n, .int .i64 sl]] wx fun e w' => e = .returned (.int .i64 c) ∧ Below wx.heap.size wx w')) (hn : (n != c) = false) (h0 : decide (sl < 0) = true) :
    Calls Try.prog 13 #[.agg #[.int .i64 k, tv, lv, .int .i64 n, .int .i64 sl]] w fun e w' => e = .returned (.int .i64 4) ∧ Below w.heap.size w w' := by
  have HK := hide (fun wx => isK_any k wx)
  rw [hk] at HK
  obtain ⟨b0, b1, b2, b3, b4⟩ := box5 (w := w) (c0 := .int .i64 k) (c1 := tv) (c2 := lv) (c3 := .int .i64 n) (c4 := .int .i64 sl) (t := 25)
  have hB0 := (Below.refl _ w).alloc (Nat.le_refl _) (.cells #[.int .i64 k, tv, lv, .int .i64 n, .int .i64 sl] 25)
  clear hk
  go_enter Try.func13, Try.ntmps13
  go_wp2
  generalize (w.alloc (.cells #[.int .i64 k, tv, lv, .int .i64 n, .int .i64 sl] 25)) = W0 at *
  have x0 : W0.drew.cell? ⟨w.heap.size, 0, none⟩ = some (.int .i64 k) := b0
  have x1 : W0.drew.cell? ⟨w.heap.size, 1, none⟩ = some (tv) := b1
  have x2 : W0.drew.cell? ⟨w.heap.size, 2, none⟩ = some (lv) := b2
  have x3 : W0.drew.cell? ⟨w.heap.size, 3, none⟩ = some (.int .i64 n) := b3
  have x4 : W0.drew.cell? ⟨w.heap.size, 4, none⟩ = some (.int .i64 sl) := b4
  first | (go_region_with (first
    | (go_at_call 34; refine (HC.out _ (hBd)).mono ?_; rintro e we ⟨rfl, qe⟩; have hBe := Below.next (hBd) qe; have e0 := keep_cell d0 qe; have e1 := keep_cell d1 qe; have e2 := keep_cell d2 qe; have e3 := keep_cell d3 qe; have e4 := keep_cell d4 qe; clear qe)
    | (go_at_call 33; refine (HL.out _ (hBc)).mono ?_; rintro e wd ⟨rfl, qd⟩; have hBd := Below.next (hBc) qd; have d0 := keep_cell c0 qd; have d1 := keep_cell c1 qd; have d2 := keep_cell c2 qd; have d3 := keep_cell c3 qd; have d4 := keep_cell c4 qd; clear qd)
    | (go_at_call 32; refine (HT.out _ (below_dr hB0)).mono ?_; rintro e wc ⟨rfl, qc⟩; have hBc := Below.next (below_dr hB0) qc; have c0 := keep_cell (w := W0.drew) b0 qc; have c1 := keep_cell (w := W0.drew) b1 qc; have c2 := keep_cell (w := W0.drew) b2 qc; have c3 := keep_cell (w := W0.drew) b3 qc; have c4 := keep_cell (w := W0.drew) b4 qc; clear qc)
    | (go_at_call 26; refine (HK.out _).mono ?_; rintro e wk ⟨rfl, rfl⟩))) | fail
  all_goals go_wp2
  all_goals go_ret
  all_goals exact ⟨rfl, hBe⟩
set_option maxHeartbeats 2000000 in
theorem check_big (tv lv : Value) (k n sl : Int) (w : World) (hk : decide (2 ≤ k ∧ k ≤ 64) = true) (HT : Hid (∀ wx, Below w.heap.size w wx → Calls Try.prog 32 #[.agg #[.int .i64 k, tv, lv, .int .i64 n, .int .i64 sl]] wx fun e w' => e = .returned (.bool true) ∧ Below wx.heap.size wx w')) (HL : Hid (∀ wx, Below w.heap.size w wx → Calls Try.prog 33 #[.agg #[.int .i64 k, tv, lv, .int .i64 n, .int .i64 sl]] wx fun e w' => e = .returned (.bool true) ∧ Below wx.heap.size wx w')) (c : Int) (HC : Hid (∀ wx, Below w.heap.size w wx → Calls Try.prog 34 #[.agg #[.int .i64 k, tv, lv, .int .i64 n, .int .i64 sl]] wx fun e w' => e = .returned (.int .i64 c) ∧ Below wx.heap.size wx w')) (hn : (n != c) = false) (h0 : decide (sl < 0) = false) (h1 : decide (1152921504606846976 < sl) = true) :
    Calls Try.prog 13 #[.agg #[.int .i64 k, tv, lv, .int .i64 n, .int .i64 sl]] w fun e w' => e = .returned (.int .i64 4) ∧ Below w.heap.size w w' := by
  have HK := hide (fun wx => isK_any k wx)
  rw [hk] at HK
  obtain ⟨b0, b1, b2, b3, b4⟩ := box5 (w := w) (c0 := .int .i64 k) (c1 := tv) (c2 := lv) (c3 := .int .i64 n) (c4 := .int .i64 sl) (t := 25)
  have hB0 := (Below.refl _ w).alloc (Nat.le_refl _) (.cells #[.int .i64 k, tv, lv, .int .i64 n, .int .i64 sl] 25)
  clear hk
  go_enter Try.func13, Try.ntmps13
  go_wp2
  generalize (w.alloc (.cells #[.int .i64 k, tv, lv, .int .i64 n, .int .i64 sl] 25)) = W0 at *
  go_region_held3 (fun wx => wx.cell? ⟨w.heap.size, 0, none⟩ = some (.int .i64 k) ∧ wx.cell? ⟨w.heap.size, 1, none⟩ = some (tv) ∧ wx.cell? ⟨w.heap.size, 2, none⟩ = some (lv) ∧ wx.cell? ⟨w.heap.size, 3, none⟩ = some (.int .i64 n) ∧ wx.cell? ⟨w.heap.size, 4, none⟩ = some (.int .i64 sl)) (first | (refine ⟨?_, ?_, ?_, ?_, ?_⟩ <;> with_reducible assumption) | (rw [show World.cell? W0.drew = World.cell? W0 from rfl]; exact ⟨b0, b1, b2, b3, b4⟩)) (first
    | (go_at_call 34; refine (HC.out _ (hBd)).mono ?_; rintro e we ⟨rfl, qe⟩; have hBe := Below.next (hBd) qe; have e0 := keep_cell d0 qe; have e1 := keep_cell d1 qe; have e2 := keep_cell d2 qe; have e3 := keep_cell d3 qe; have e4 := keep_cell d4 qe; clear qe)
    | (go_at_call 33; refine (HL.out _ (hBc)).mono ?_; rintro e wd ⟨rfl, qd⟩; have hBd := Below.next (hBc) qd; have d0 := keep_cell c0 qd; have d1 := keep_cell c1 qd; have d2 := keep_cell c2 qd; have d3 := keep_cell c3 qd; have d4 := keep_cell c4 qd; clear qd)
    | (go_at_call 32; refine (HT.out _ (below_dr hB0)).mono ?_; rintro e wc ⟨rfl, qc⟩; have hBc := Below.next (below_dr hB0) qc; have c0 := keep_cell (w := W0.drew) b0 qc; have c1 := keep_cell (w := W0.drew) b1 qc; have c2 := keep_cell (w := W0.drew) b2 qc; have c3 := keep_cell (w := W0.drew) b3 qc; have c4 := keep_cell (w := W0.drew) b4 qc; clear qc)
    | (go_at_call 26; refine (HK.out _).mono ?_; rintro e wk ⟨rfl, rfl⟩))
  go_wp2
  go_ret
  exact ⟨rfl, hBe⟩
set_option maxHeartbeats 2000000 in
theorem check_ok (tv lv : Value) (k n sl : Int) (w : World) (hk : decide (2 ≤ k ∧ k ≤ 64) = true) (HT : Hid (∀ wx, Below w.heap.size w wx → Calls Try.prog 32 #[.agg #[.int .i64 k, tv, lv, .int .i64 n, .int .i64 sl]] wx fun e w' => e = .returned (.bool true) ∧ Below wx.heap.size wx w')) (HL : Hid (∀ wx, Below w.heap.size w wx → Calls Try.prog 33 #[.agg #[.int .i64 k, tv, lv, .int .i64 n, .int .i64 sl]] wx fun e w' => e = .returned (.bool true) ∧ Below wx.heap.size wx w')) (c : Int) (HC : Hid (∀ wx, Below w.heap.size w wx → Calls Try.prog 34 #[.agg #[.int .i64 k, tv, lv, .int .i64 n, .int .i64 sl]] wx fun e w' => e = .returned (.int .i64 c) ∧ Below wx.heap.size wx w')) (hn : (n != c) = false) (h0 : decide (sl < 0) = false) (h1 : decide (1152921504606846976 < sl) = false) :
    Calls Try.prog 13 #[.agg #[.int .i64 k, tv, lv, .int .i64 n, .int .i64 sl]] w fun e w' => e = .returned (.int .i64 0) ∧ Below w.heap.size w w' := by
  have HK := hide (fun wx => isK_any k wx)
  rw [hk] at HK
  obtain ⟨b0, b1, b2, b3, b4⟩ := box5 (w := w) (c0 := .int .i64 k) (c1 := tv) (c2 := lv) (c3 := .int .i64 n) (c4 := .int .i64 sl) (t := 25)
  have hB0 := (Below.refl _ w).alloc (Nat.le_refl _) (.cells #[.int .i64 k, tv, lv, .int .i64 n, .int .i64 sl] 25)
  clear hk
  go_enter Try.func13, Try.ntmps13
  go_wp2
  generalize (w.alloc (.cells #[.int .i64 k, tv, lv, .int .i64 n, .int .i64 sl] 25)) = W0 at *
  go_region_held3 (fun wx => wx.cell? ⟨w.heap.size, 0, none⟩ = some (.int .i64 k) ∧ wx.cell? ⟨w.heap.size, 1, none⟩ = some (tv) ∧ wx.cell? ⟨w.heap.size, 2, none⟩ = some (lv) ∧ wx.cell? ⟨w.heap.size, 3, none⟩ = some (.int .i64 n) ∧ wx.cell? ⟨w.heap.size, 4, none⟩ = some (.int .i64 sl)) (first | (refine ⟨?_, ?_, ?_, ?_, ?_⟩ <;> with_reducible assumption) | (rw [show World.cell? W0.drew = World.cell? W0 from rfl]; exact ⟨b0, b1, b2, b3, b4⟩)) (first
    | (go_at_call 34; refine (HC.out _ (hBd)).mono ?_; rintro e we ⟨rfl, qe⟩; have hBe := Below.next (hBd) qe; have e0 := keep_cell d0 qe; have e1 := keep_cell d1 qe; have e2 := keep_cell d2 qe; have e3 := keep_cell d3 qe; have e4 := keep_cell d4 qe; clear qe)
    | (go_at_call 33; refine (HL.out _ (hBc)).mono ?_; rintro e wd ⟨rfl, qd⟩; have hBd := Below.next (hBc) qd; have d0 := keep_cell c0 qd; have d1 := keep_cell c1 qd; have d2 := keep_cell c2 qd; have d3 := keep_cell c3 qd; have d4 := keep_cell c4 qd; clear qd)
    | (go_at_call 32; refine (HT.out _ (below_dr hB0)).mono ?_; rintro e wc ⟨rfl, qc⟩; have hBc := Below.next (below_dr hB0) qc; have c0 := keep_cell (w := W0.drew) b0 qc; have c1 := keep_cell (w := W0.drew) b1 qc; have c2 := keep_cell (w := W0.drew) b2 qc; have c3 := keep_cell (w := W0.drew) b3 qc; have c4 := keep_cell (w := W0.drew) b4 qc; clear qc)
    | (go_at_call 26; refine (HK.out _).mono ?_; rintro e wk ⟨rfl, rfl⟩))
  go_wp2
  go_ret
  exact ⟨rfl, hBe⟩

theorem check_any (tv lv : Value) (s : P.Rk) (w : World) (hr : RkV w tv lv s) : Calls Try.prog 13 #[aggR tv lv s] w fun e w' => e = .returned (.int .i64 (P.chkR s)) ∧ Below w.heap.size w w' := by
  have HT := hide (fun wx (hb : Below w.heap.size w wx) => soundTail_any tv lv s wx (hr.below hb (Nat.le_refl _)))
  have HL := hide (fun wx (hb : Below w.heap.size w wx) => soundLevels_any tv lv s wx (hr.below hb (Nat.le_refl _)))
  by_cases hk : 2 ≤ s.k ∧ s.k ≤ 64
  · have hkd : decide (2 ≤ s.k ∧ s.k ≤ 64) = true := by simpa using hk
    by_cases ht : (s.tail.length : Int) < s.k ∧ P.Inc s.tail
    · have htb : P.stB s = true := by unfold P.stB; simpa using ht
      rw [htb] at HT
      by_cases hl : s.lv.length ≤ 20 ∧ P.OkL s.k s.lv ∧ P.Tip s.lv
      · rw [P.slB_yes hl.1 hl.2.1 hl.2.2] at HL
        have HC := hide (fun wx (hb : Below w.heap.size w wx) => count_any tv lv s wx (hr.below hb (Nat.le_refl _)) hl.1 (by omega) (fun l hm => by have := (hl.2.1 l hm).2; omega))
        by_cases hn : s.n = ((s.tail.length + P.cnt s.lv : Nat) : Int)
        · have hnb : (s.n != ((s.tail.length + P.cnt s.lv : Nat) : Int)) = false := by rw [bne_eq_false_iff_eq]; exact hn
          have hmid : 0 ≤ s.sl → P.Mid s := fun h0 => ⟨hk.1, hk.2, ht.1, ht.2, (P.okL_lv (by omega)).1 hl.2.1, hl.2.2, by rw [hn]; push_cast; rfl, h0⟩
          by_cases h0 : s.sl < 0
          · rw [P.chkR_not fun h => by have := h.1.sl; omega]
            exact check_neg tv lv s.k s.n s.sl w hkd HT HL _ HC hnb (by simpa using h0)
          · have h0d : decide (s.sl < 0) = false := by simpa using h0
            by_cases h1 : 1152921504606846976 < s.sl
            · rw [P.chkR_not fun h => by have := h.2.2; omega]
              exact check_big tv lv s.k s.n s.sl w hkd HT HL _ HC hnb h0d (by simpa using h1)
            · rw [P.chkR_ok ⟨hmid (by omega), hl.1, by omega⟩]
              exact check_ok tv lv s.k s.n s.sl w hkd HT HL _ HC hnb h0d (by simpa using h1)
        · rw [P.chkR_not fun h => hn (by rw [h.1.n]; push_cast; rfl)]
          exact check_n tv lv s.k s.n s.sl w hkd HT HL _ HC (by rw [bne_iff_ne]; exact hn)
      · rw [P.slB_no hl] at HL
        rw [P.chkR_not fun h => hl ⟨h.2.1, (P.okL_lv (by omega)).2 h.1.lv, h.1.tip⟩]
        exact check_l tv lv s.k s.n s.sl w hkd HT HL
    · have htb : P.stB s = false := by unfold P.stB; simpa using ht
      rw [htb] at HT
      rw [P.chkR_not fun h => ht ⟨h.1.room, h.1.inc⟩]
      exact check_t tv lv s.k s.n s.sl w hkd HT
  · rw [P.chkR_not fun h => hk ⟨h.1.k2, h.1.k64⟩]
    exact check_k tv lv s.k s.n s.sl w (by simpa using hk)
end Go.Proofs.Ytlndbmenaaiogaa
