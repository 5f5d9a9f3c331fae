/- Several texts in one. -/
import Derived.Test.YtcaidfffmllfeaaHeavyKAll
import Derived.Deep.RegionWith
import Derived.Deep.RegionHeld3
import Derived.BigQuiet
/- What heavy.Check answers (written by wip/mkhv.py). -/
namespace Go.Proofs.Ytcaidfffmllfeaa
open Go.RowKit
set_option linter.unusedVariables false

set_option maxHeartbeats 2000000 in
theorem check_k (a : Option Addr) (m cap : Nat) (k n off : Int) (w : World) (hm : (m : Int) ≤ 9223372036854775807) (hk : decide (1 ≤ k ∧ k ≤ 64) = false) :
    Calls Try.prog 14 #[.agg #[.int .i64 k, .slice a m cap, .int .i64 n, .int .i64 off]] w fun e w' => e = .returned (.int .i64 4) ∧ Below w.heap.size w w' := by
  have HK := hide (fun wx => isK_any k wx)
  rw [hk] at HK
  obtain ⟨b0, b1, b2, b3⟩ := box4 (w := w) (c0 := .int .i64 k) (c1 := .slice a m cap) (c2 := .int .i64 n) (c3 := .int .i64 off) (t := 24)
  have hB0 := (Below.refl _ w).alloc (Nat.le_refl _) (.cells #[.int .i64 k, .slice a m cap, .int .i64 n, .int .i64 off] 24)
  clear hk 
  go_enter Try.func14, Try.ntmps14
  go_wp2
  generalize (w.alloc (.cells #[.int .i64 k, .slice a m cap, .int .i64 n, .int .i64 off] 24)) = W0 at *
  go_quiet ((go_at_call 26; exact Calls.quiet_of_same (HK.out _)))
  go_wp2
  go_ret
  exact ⟨rfl, below_dn hB0 _⟩
set_option maxHeartbeats 2000000 in
theorem check_len (a : Option Addr) (m cap : Nat) (k n off : Int) (w : World) (hm : (m : Int) ≤ 9223372036854775807) (hk : decide (1 ≤ k ∧ k ≤ 64) = true) (hlen : decide (k < (m : Int)) = true) :
    Calls Try.prog 14 #[.agg #[.int .i64 k, .slice a m cap, .int .i64 n, .int .i64 off]] w fun e w' => e = .returned (.int .i64 4) ∧ Below w.heap.size w w' := by
  have HK := hide (fun wx => isK_any k wx)
  rw [hk] at HK
  obtain ⟨b0, b1, b2, b3⟩ := box4 (w := w) (c0 := .int .i64 k) (c1 := .slice a m cap) (c2 := .int .i64 n) (c3 := .int .i64 off) (t := 24)
  have hB0 := (Below.refl _ w).alloc (Nat.le_refl _) (.cells #[.int .i64 k, .slice a m cap, .int .i64 n, .int .i64 off] 24)
  clear hk 
  go_enter Try.func14, Try.ntmps14
  go_wp2
  generalize (w.alloc (.cells #[.int .i64 k, .slice a m cap, .int .i64 n, .int .i64 off] 24)) = W0 at *
  go_quiet ((go_at_call 26; exact Calls.quiet_of_same (HK.out _)))
  go_wp2
  go_ret
  exact ⟨rfl, below_dn hB0 _⟩
set_option maxHeartbeats 2000000 in
theorem check_l (a : Option Addr) (m cap : Nat) (k n off : Int) (w : World) (hm : (m : Int) ≤ 9223372036854775807) (hk : decide (1 ≤ k ∧ k ≤ 64) = true) (hlen : decide (k < (m : Int)) = false) (HS : Hid (∀ wx, Below w.heap.size w wx → Calls Try.prog 28 #[.slice a m cap] wx fun e w' => e = .returned (.bool false) ∧ Below wx.heap.size wx w')) :
    Calls Try.prog 14 #[.agg #[.int .i64 k, .slice a m cap, .int .i64 n, .int .i64 off]] w fun e w' => e = .returned (.int .i64 4) ∧ Below w.heap.size w w' := by
  have HK := hide (fun wx => isK_any k wx)
  rw [hk] at HK
  obtain ⟨b0, b1, b2, b3⟩ := box4 (w := w) (c0 := .int .i64 k) (c1 := .slice a m cap) (c2 := .int .i64 n) (c3 := .int .i64 off) (t := 24)
  have hB0 := (Below.refl _ w).alloc (Nat.le_refl _) (.cells #[.int .i64 k, .slice a m cap, .int .i64 n, .int .i64 off] 24)
  clear hk 
  go_enter Try.func14, Try.ntmps14
  go_wp2
  generalize (w.alloc (.cells #[.int .i64 k, .slice a m cap, .int .i64 n, .int .i64 off] 24)) = W0 at *
  have x0 : W0.drew.cell? ⟨w.heap.size, 0, none⟩ = some (.int .i64 k) := b0
  have x1 : W0.drew.cell? ⟨w.heap.size, 1, none⟩ = some (.slice a m cap) := b1
  have x2 : W0.drew.cell? ⟨w.heap.size, 2, none⟩ = some (.int .i64 n) := b2
  have x3 : W0.drew.cell? ⟨w.heap.size, 3, none⟩ = some (.int .i64 off) := b3
  first | (go_region_with (first
    | (go_at_call 28; refine (HS.out _ (below_dr hB0)).mono ?_; rintro e wc ⟨rfl, qc⟩; have hBc := Below.next (below_dr hB0) qc; have c0 := keep_cell (w := W0.drew) b0 qc; have c1 := keep_cell (w := W0.drew) b1 qc; have c2 := keep_cell (w := W0.drew) b2 qc; have c3 := keep_cell (w := W0.drew) b3 qc; clear qc)
    | (go_at_call 26; refine (HK.out _).mono ?_; rintro e wk ⟨rfl, rfl⟩))) | fail
  all_goals go_wp2
  all_goals go_ret
  all_goals exact ⟨rfl, hBc⟩

end Go.Proofs.Ytcaidfffmllfeaa
