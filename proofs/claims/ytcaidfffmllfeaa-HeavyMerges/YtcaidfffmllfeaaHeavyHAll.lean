/- Several texts in one. -/
import Derived.Test.YtcaidfffmllfeaaHeavyH1All
import Derived.Test.YtcaidfffmllfeaaHeavyH2All
import Derived.Test.YtcaidfffmllfeaaHeavyH3All
import Derived.Test.YtcaidfffmllfeaaHeavyH4All
import Derived.Deep.RegionWith
import Derived.Deep.RegionHeld3
import Derived.BigQuiet
/- What heavy.Check answers (written by wip/mkhv.py). -/
namespace Go.Proofs.Ytcaidfffmllfeaa
open Go.RowKit
set_option linter.unusedVariables false

theorem check_any (v : Value) (s : P.Hv) (w : World) (hr : RowC w v s.l) (hi : HvI s) : Calls Try.prog 14 #[aggH v s] w fun e w' => e = .returned (.int .i64 (P.chkH s)) ∧ Below w.heap.size w w' := by
  have HS := hide (fun wx (hb : Below w.heap.size w wx) => soundCounts_any v s.l wx (hr.below hb (Nat.le_refl _)) hi.l)
  have HR := hide (fun wx (hb : Below w.heap.size w wx) => accounted_any v s wx (hr.below hb (Nat.le_refl _)))
  obtain ⟨a, cap, rfl, ⟨hlc, hmax, hnn⟩, hcase⟩ := hr
  unfold maxLen at hmax
  have hm : (s.l.length : Int) ≤ 9223372036854775807 := by omega
  by_cases hk : 1 ≤ s.k ∧ s.k ≤ 64
  · have hkd : decide (1 ≤ s.k ∧ s.k ≤ 64) = true := by simpa using hk
    by_cases hl : s.k < (s.l.length : Int)
    · rw [P.chkH_not fun h => by have := h.len; omega]
      exact check_len a _ cap s.k s.n s.off w hm hkd (by simpa using hl)
    · have hld : decide (s.k < (s.l.length : Int)) = false := by simpa using hl
      by_cases hok : P.OkC s.l
      · rw [P.okB_yes hok] at HS
        by_cases hn : 0 ≤ s.n ∧ s.n ≤ 1000000000
        · have hnd : decide (0 ≤ s.n ∧ s.n ≤ 1000000000) = true := by simpa using hn
          by_cases ho : 0 ≤ s.off ∧ s.off ≤ 1000000000
          · have hod : decide (0 ≤ s.off ∧ s.off ≤ 1000000000) = true := by simpa using ho
            have HA := hide (fun wx hb => HR.out wx hb hk (by omega) hok ho)
            by_cases hc : s.n < (s.k + 1) * s.off + P.tot s.l
            · rw [P.chkH_not fun h => by have := h.acc; omega]
              exact check_acc a _ cap s.k s.n s.off w hm hkd hld HS hnd hod _ HA (by simpa using hc)
            · rw [P.chkH_ok ⟨hk.1, hk.2, by omega, hok, hn.1, hn.2, ho.1, ho.2, by omega⟩]
              exact check_ok a _ cap s.k s.n s.off w hm hkd hld HS hnd hod _ HA (by simpa using hc)
          · rw [P.chkH_not fun h => ho ⟨h.o0, h.o1⟩]
            exact check_off a _ cap s.k s.n s.off w hm hkd hld HS hnd (by simpa using ho)
        · rw [P.chkH_not fun h => hn ⟨h.n0, h.n1⟩]
          exact check_n a _ cap s.k s.n s.off w hm hkd hld HS (by simpa using hn)
      · rw [P.okB_no hok] at HS
        rw [P.chkH_not fun h => hok h.ok]
        exact check_l a _ cap s.k s.n s.off w hm hkd hld HS
  · rw [P.chkH_not fun h => hk ⟨h.k1, h.k2⟩]
    exact check_k a _ cap s.k s.n s.off w hm (by simpa using hk)
end Go.Proofs.Ytcaidfffmllfeaa
