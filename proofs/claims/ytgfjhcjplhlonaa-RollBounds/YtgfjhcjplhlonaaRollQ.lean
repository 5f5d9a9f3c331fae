/- Plain: the errors of samples that are rolled up. -/
import Derived.Test.YtgfjhcjplhlonaaRollR
namespace Go.Proofs.Ytgfjhcjplhlonaa
set_option linter.unusedVariables false
namespace P
theorem roerr_eq {l : List (Int × Int)} {w : Int} (h : chk l = 0) : roerr l w = rerr (ones l) w := (rout_roout h).2.symm
theorem roerr_zero {l : List (Int × Int)} {w : Int} (h : roerr l w = 0) : chk l = 0 ∧ 1 ≤ w ∧ w ≤ 1099511627776 ∧ far (ones l) = false ∧ roout l w = grp (beg w) (ones l) := by
  have h1 : chk l = 0 := by
    apply Classical.byContradiction
    intro hc
    unfold roerr at h
    rw [if_pos hc] at h
    exact hc h
  obtain ⟨a, b, c, _⟩ := rerr_zero (by rw [← roerr_eq h1]; exact h)
  exact ⟨h1, a, b, c, by unfold roout; rw [if_pos h]⟩
theorem rerr_ones {l : List (Int × Int)} {w : Int} (h : chk l = 0) (h1 : 1 ≤ w) (h2 : w ≤ 1099511627776) : rerr (ones l) w = if far (ones l) = true then 6 else 0 := by
  unfold rerr
  rw [if_neg (by omega), if_neg (by omega), crowd_ones _ (chk_zero h).1]
  simp
theorem roerr_same {l : List (Int × Int)} {v w : Int} (h1 : 1 ≤ v) (h2 : v ≤ 1099511627776) (h3 : 1 ≤ w) (h4 : w ≤ 1099511627776) : roerr l v = roerr l w := by
  by_cases h : chk l = 0
  · rw [roerr_eq h, roerr_eq h, rerr_ones h h1 h2, rerr_ones h h3 h4]
  · unfold roerr; rw [if_pos h, if_pos h]
end P
end Go.Proofs.Ytgfjhcjplhlonaa
