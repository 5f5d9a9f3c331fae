/- Several texts in one. -/
import Derived.Test.YtpinhcbkfjoopaaKitAll
/- good: of these errors none is an error. -/
namespace Go.Proofs.Ytpinhcbkfjoopaa
open Go.RowKit
set_option linter.unusedVariables false
theorem good1 (e : Int) (w : World) : Calls Try.prog 36 #[.int .i64 e] w fun r w' => r = .returned (.bool (e != 0)) ∧ w' = w := by
  go_enter Try.func36, Try.ntmps36
  go_wp2
  go_ret
  exact ⟨rfl, rfl⟩
/-- All errors of a list of zeros are none. -/
theorem index_zeros (v : Value) (n : Nat) (w : World) (hr : RowK .i64 w v (List.replicate n 0)) :
    Calls Try.prog 43 #[v, .func (.func 36) #[] #[]] w fun e w' => e = .returned (.int .i64 (-1)) ∧ w' = w := by
  obtain ⟨a, cap, rfl, ⟨hlc, hmax, _⟩, hcase⟩ := hr
  unfold maxLen at hmax
  simp only [List.length_replicate] at *
  go_enter Try.func43, Try.ntmps43
  go_wp2
  go_loop [8] (fun i => ∃ k : Nat, k ≤ n ∧ i = .int .i64 k) (fun i => n - (intOf i).toNat)
  case atStart => exact ⟨0, by omega, rfl⟩
  case round =>
    obtain ⟨k, hk, rfl⟩ := hrel
    by_cases hlt : k < n
    · rcases hcase with h | ⟨b, off, rfl, hbs, hcell⟩
      · have : n = 0 := by simpa using h
        omega
      have hc : w.cell? ⟨b, off + k, none⟩ = some (.int .i64 0) := by
        rw [hcell k hlt]; simp [List.getD_eq_getElem?_getD, hlt]
      clear hcell
      go_wp2_with (go_at_call 36; go_must (refine (good1 _ _).mono ?_); rintro e w' ⟨rfl, rfl⟩)
      go_round
      case rel => exact ⟨k + 1, by omega, by go_num⟩
      case measure => simp [intOf]; omega
    · go_wp2
      go_ret
      exact ⟨rfl, rfl⟩
theorem contains_zeros (v : Value) (n : Nat) (w : World) (hr : RowK .i64 w v (List.replicate n 0)) :
    Calls Try.prog 35 #[v, .func (.func 36) #[] #[]] w fun e w' => e = .returned (.bool false) ∧ w' = w := by
  go_enter Try.func35, Try.ntmps35
  go_wp2_with (go_at_call 43; go_must (refine (index_zeros _ n _ hr).mono ?_); rintro e w' ⟨rfl, rfl⟩)
  go_ret
  exact ⟨rfl, rfl⟩
theorem good_zeros (v : Value) (n : Nat) (w : World) (hr : RowK .i64 w v (List.replicate n 0)) :
    Calls Try.prog 24 #[v] w fun e w' => e = .returned (.bool true) ∧ w' = w := by
  go_enter Try.func24, Try.ntmps24
  go_wp2_with (go_at_call 35; go_must (refine (contains_zeros _ n _ hr).mono ?_); rintro e w' ⟨rfl, rfl⟩)
  go_ret
  exact ⟨rfl, rfl⟩
/-- Two errors, none of them one, in a new row. -/
theorem row_two_zeros (w : World) (t : TypeId) : RowK .i64 (w.alloc (.cells #[.int .i64 0, .int .i64 0] t)) (.slice (some ⟨w.heap.size, 0, none⟩) 2 2) (List.replicate 2 0) := by
  refine ⟨_, 2, rfl, ⟨by simp, by decide, fun h => by cases h⟩, .inr ⟨w.heap.size, 0, rfl, by simp, fun j hj => ?_⟩⟩
  match j, hj with
  | 0, _ => simp
  | 1, _ => simp
end Go.Proofs.Ytpinhcbkfjoopaa
