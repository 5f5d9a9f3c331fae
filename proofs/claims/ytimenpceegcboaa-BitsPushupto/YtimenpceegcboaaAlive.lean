/- bitses answers true. -/
import Derived.Test.YtimenpceegcboaaZz
namespace Go.Proofs.Ytimenpceegcboaa
open Go.RowKit
set_option linter.unusedVariables false
theorem put5 : (P.put 5).length = 1 := by decide
theorem zig1 : P.zig (-1) = 1 := by decide
/-- The length of a value that owns bytes. -/
theorem OwnB.shape {w : World} {base : Nat} {v : Value} {l : List Int} (h : OwnB w base v l) : ∃ a cap, v = .slice a l.length cap := by
  obtain ⟨a, cap, hv, _⟩ := h.row; exact ⟨a, cap, hv⟩
theorem bitses_any (w : World) : Calls Try.prog 27 #[] w fun e w' => e = .returned (.bool true) ∧ Below w.heap.size w w' := by
  have hp := put5
  have hz := zig1
  go_enter Try.func27, Try.ntmps27
  go_wp2_with (first
    | (go_at_call 16; refine (put_any _ _ (by omega) (by omega)).mono ?_; rintro e w' ⟨v, rfl, hown, hb⟩; obtain ⟨a, cap, hv⟩ := hown.shape; rw [hv])
    | (go_at_call 11; refine (zig_any _ _ (by omega) (by omega)).mono ?_; rintro e w' ⟨rfl, rfl⟩))
  go_ret
  exact ⟨rfl, hb⟩
end Go.Proofs.Ytimenpceegcboaa
