/- Several texts in one. -/
import Derived.Test.YtpinhcbkfjoopaaGoodAll
/- good of whatever errors: is none of them an error? -/
namespace Go.Proofs.Ytpinhcbkfjoopaa
open Go.RowKit
set_option linter.unusedVariables false
/-- Are all errors of a list none? -/
def allZ (l : List Int) : Bool := decide (∀ j, j < l.length → l.getD j 0 = 0)
theorem index_any (v : Value) (l : List Int) (w : World) (hr : RowK .i64 w v l) :
    Calls Try.prog 43 #[v, .func (.func 36) #[] #[]] w fun e w' => ∃ r : Int, e = .returned (.int .i64 r) ∧ decide (0 ≤ r) = !allZ l ∧ w' = w := by
  obtain ⟨a, cap, rfl, ⟨hlc, hmax, _⟩, hcase⟩ := hr
  unfold maxLen at hmax
  go_enter Try.func43, Try.ntmps43
  go_wp2
  go_loop [8] (fun i => ∃ k : Nat, k ≤ l.length ∧ i = .int .i64 k ∧ ∀ j, j < k → l.getD j 0 = 0) (fun i => l.length - (intOf i).toNat)
  case atStart => exact ⟨0, by omega, rfl, fun j hj => by omega⟩
  case round =>
    obtain ⟨k, hk, rfl, hz⟩ := hrel
    have HZ := hide hz
    clear hz
    by_cases hlt : k < l.length
    · rcases hcase with h | ⟨b, off, rfl, hbs, hcell⟩
      · rw [h] at hlt; simp at hlt
      have hc := hcell k hlt
      clear hcell
      have HX := hide (rfl : l.getD k 0 = l.getD k 0)
      generalize hx : l.getD k 0 = x at hc
      have HXx := hide hx
      clear hx HX
      by_cases h0 : x = 0
      · have HG := hide (good1 x w)
        have H0 := hide h0
        rw [show (x != 0) = false by simp [h0]] at HG
        clear h0
        go_wp2_with (go_at_call 36; go_must (refine HG.out.mono ?_); rintro e w' ⟨rfl, rfl⟩)
        go_round
        case rel =>
          refine ⟨k + 1, by omega, by go_num, fun j hj => ?_⟩
          rcases Nat.lt_or_ge j k with h | h
          · exact HZ.out j h
          · obtain rfl : j = k := by omega
            rw [HXx.out, H0.out]
        case measure => simp [intOf]; omega
      · have HG := hide (good1 x w)
        rw [show (x != 0) = true by simp [h0]] at HG
        have HA : Hid (allZ l = false) := by
          show _ = _
          unfold allZ
          rw [decide_eq_false_iff_not]
          intro h
          exact h0 (by rw [← HXx.out]; exact h k hlt)
        go_wp2_with (go_at_call 36; go_must (refine HG.out.mono ?_); rintro e w' ⟨rfl, rfl⟩)
        go_ret
        exact ⟨k, rfl, by rw [HA.out]; simp, rfl⟩
    · have HA : Hid (allZ l = true) := by
        show _ = _
        unfold allZ
        rw [decide_eq_true_eq]
        exact fun j hj => HZ.out j (by omega)
      go_wp2
      go_ret
      exact ⟨-1, rfl, by rw [HA.out]; rfl, rfl⟩
theorem contains_any (v : Value) (l : List Int) (w : World) (hr : RowK .i64 w v l) :
    Calls Try.prog 35 #[v, .func (.func 36) #[] #[]] w fun e w' => e = .returned (.bool (!allZ l)) ∧ w' = w := by
  have HI := hide (index_any v l w hr)
  go_enter Try.func35, Try.ntmps35
  go_wp2_with (go_at_call 43; go_must (refine HI.out.mono ?_); rintro e w' ⟨r, rfl, hq, rfl⟩)
  go_ret
  exact ⟨by rw [← hq]; rfl, rfl⟩
theorem good_any (v : Value) (l : List Int) (w : World) (hr : RowK .i64 w v l) :
    Calls Try.prog 24 #[v] w fun e w' => e = .returned (.bool (allZ l)) ∧ w' = w := by
  have HI := hide (contains_any v l w hr)
  generalize allZ l = z at *
  go_enter Try.func24, Try.ntmps24
  go_wp2_with (go_at_call 35; go_must (refine HI.out.mono ?_); rintro e w' ⟨rfl, rfl⟩)
  go_ret
  exact ⟨by simp, rfl⟩
theorem row_three (w : World) (x y z : Int) (t : TypeId) : RowK .i64 (w.alloc (.cells #[.int .i64 x, .int .i64 y, .int .i64 z] t)) (.slice (some ⟨w.heap.size, 0, none⟩) 3 3) [x, y, z] := by
  refine ⟨_, 3, rfl, ⟨by simp, by decide, fun h => by cases h⟩, .inr ⟨w.heap.size, 0, rfl, by simp, fun j hj => ?_⟩⟩
  match j, hj with
  | 0, _ => simp
  | 1, _ => simp
  | 2, _ => simp
theorem allZ_three {x y z : Int} (h : allZ [x, y, z] = true) : x = 0 ∧ y = 0 ∧ z = 0 := by
  unfold allZ at h
  rw [decide_eq_true_eq] at h
  exact ⟨h 0 (by simp), h 1 (by simp), h 2 (by simp)⟩
end Go.Proofs.Ytpinhcbkfjoopaa
