/- Several texts in one. -/
import Derived.Test.YtcaidfffmllfeaaHeavyKAll
import Derived.Deep.RegionWith
import Derived.Deep.RegionHeld3
import Derived.BigQuiet
/- What heavy.Check answers (written by wip/mkhv.py). -/
namespace Go.Proofs.Ytcaidfffmllfeaa
open Go.RowKit
set_option linter.unusedVariables false

set_option maxHeartbeats 2000000 in
theorem check_off (a : Option Addr) (m cap : Nat) (k n off : Int) (w : World) (hm : (m : Int) ≤ 9223372036854775807) (hk : decide (1 ≤ k ∧ k ≤ 64) = true) (hlen : decide (k < (m : Int)) = false) (HS : Hid (∀ wx, Below w.heap.size w wx → Calls Try.prog 28 #[.slice a m cap] wx fun e w' => e = .returned (.bool true) ∧ Below wx.heap.size wx w')) (hn : decide (0 ≤ n ∧ n ≤ 1000000000) = true) (ho : decide (0 ≤ off ∧ off ≤ 1000000000) = false) :
    Calls Try.prog 14 #[.agg #[.int .i64 k, .slice a m cap, .int .i64 n, .int .i64 off]] w fun e w' => e = .returned (.int .i64 4) ∧ Below w.heap.size w w' := by
  have HK := hide (fun wx => isK_any k wx)
  rw [hk] at HK
  have HN := hide (fun wx => isCount_any n wx)
  rw [hn] at HN
  have HO := hide (fun wx => isCount_any off wx)
  rw [ho] at HO
  obtain ⟨b0, b1, b2, b3⟩ := box4 (w := w) (c0 := .int .i64 k) (c1 := .slice a m cap) (c2 := .int .i64 n) (c3 := .int .i64 off) (t := 24)
  have hB0 := (Below.refl _ w).alloc (Nat.le_refl _) (.cells #[.int .i64 k, .slice a m cap, .int .i64 n, .int .i64 off] 24)
  clear hk hn ho 
  go_enter Try.func14, Try.ntmps14
  go_wp2
  generalize (w.alloc (.cells #[.int .i64 k, .slice a m cap, .int .i64 n, .int .i64 off] 24)) = W0 at *
  have x0 : W0.drew.cell? ⟨w.heap.size, 0, none⟩ = some (.int .i64 k) := b0
  have x1 : W0.drew.cell? ⟨w.heap.size, 1, none⟩ = some (.slice a m cap) := b1
  have x2 : W0.drew.cell? ⟨w.heap.size, 2, none⟩ = some (.int .i64 n) := b2
  have x3 : W0.drew.cell? ⟨w.heap.size, 3, none⟩ = some (.int .i64 off) := b3
  first | (go_region_with (first
    | (go_at_call 28; refine (HS.out _ (below_dr hB0)).mono ?_; rintro e wc ⟨rfl, qc⟩; have hBc := Below.next (below_dr hB0) qc; have c0 := keep_cell (w := W0.drew) b0 qc; have c1 := keep_cell (w := W0.drew) b1 qc; have c2 := keep_cell (w := W0.drew) b2 qc; have c3 := keep_cell (w := W0.drew) b3 qc; clear qc)
    | (go_at_call 26; refine (HK.out _).mono ?_; rintro e wk ⟨rfl, rfl⟩)
    | (go_at_call 29; (first | (with_reducible refine (HN.out _).mono ?_) | (with_reducible refine (HO.out _).mono ?_)); rintro e wk ⟨rfl, rfl⟩))) | fail
  all_goals go_wp2
  all_goals go_ret
  all_goals exact ⟨rfl, hBc⟩

end Go.Proofs.Ytcaidfffmllfeaa
