/- hashes answers true. -/
import Derived.Test.YtpcgcmbidfjgpaaHof
namespace Go.Proofs.Ytpcgcmbidfjgpaa
open Go.RowKit
set_option linter.unusedVariables false
theorem hashes_any (w : World) : Calls Try.prog 12 #[] w fun e w' => e = .returned (.bool true) ∧ w' = w := by
  have H0 : Hid (∀ w, Calls Try.prog 7 #[.int .u64 0] w fun e w' => e = .returned (.int .u64 0) ∧ w' = w) := fun w => by
    have h := mix_any 0 w (by decide)
    rw [P.mix_zero] at h
    exact h
  have H9 : Hid (∀ w, Calls Try.prog 7 #[.int .u64 9] w fun e w' => e = .returned (.int .u64 (P.mix 9 : Nat)) ∧ w' = w) := fun w => mix_any 9 w (by decide)
  have U9 : Hid (∀ w, Calls Try.prog 9 #[.int .u64 (P.mix 9 : Nat)] w fun e w' => e = .returned (.int .u64 9) ∧ w' = w) := fun w => by
    have h := unmix_any (P.mix 9) w (P.mix_lt 9)
    rw [P.unmix_mix 9 (by decide)] at h
    exact h
  generalize P.mix 9 = m at H9 U9
  go_enter Try.func12, Try.ntmps12
  go_wp2_with (first
    | (go_at_call 7; first
      | (with_reducible refine (H0.out _).mono ?_; rintro e w' ⟨rfl, rfl⟩)
      | (with_reducible refine (H9.out _).mono ?_; rintro e w' ⟨rfl, rfl⟩))
    | (go_at_call 9; refine (U9.out _).mono ?_; rintro e w' ⟨rfl, rfl⟩))
  go_ret
  exact ⟨rfl, rfl⟩
end Go.Proofs.Ytpcgcmbidfjgpaa
