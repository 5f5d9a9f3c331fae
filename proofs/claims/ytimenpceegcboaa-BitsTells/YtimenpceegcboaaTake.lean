/- What bits.Take answers at all bytes. -/
import Derived.Test.YtimenpceegcboaaFrame
import Derived.Test.YtimenpceegcboaaTakeP
namespace Go.Proofs.Ytimenpceegcboaa
open Go.RowKit
set_option linter.unusedVariables false
set_option maxHeartbeats 1000000 in
theorem take_any (v : Value) (l : List Int) (w : World) (hr : RowB w v l) (hbt : Byt l) :
    Calls Try.prog 9 #[v] w fun e w' => e = .returned (.tuple #[.int .u64 (P.take l).1, .int .i64 (P.take l).2.1, .int .i64 (P.take l).2.2]) ∧ w' = w := by
  obtain ⟨a, cap, rfl, ⟨hlc, hmax, _⟩, hcase⟩ := hr
  unfold maxLen at hmax
  go_enter Try.func9, Try.ntmps9
  go_wp2
  go_loop [5, 6] (fun x i => ∃ (k : Nat) (X : Int), k ≤ l.length ∧ k ≤ 9 ∧ i = .int .i64 k ∧ x = .int .u64 X ∧ 0 ≤ X ∧ X < 128 ^ k ∧ P.take l = P.takeL k X (l.drop k)) (fun _ i => l.length - (intOf i).toNat)
  case atStart => exact ⟨0, 0, by omega, by omega, rfl, rfl, by omega, by omega, rfl⟩
  case round =>
    obtain ⟨k, X, hk, hk9, rfl, rfl, hX0, hX, hT⟩ := hrel
    have HT := hide hT
    have HX := hide hX
    clear hT hX
    by_cases hlt : k < l.length
    · rcases hcase with h | ⟨b, off, rfl, hbs, hcell⟩
      · rw [h] at hlt; simp at hlt
      have hc := hcell k hlt
      have hb := hbt.at k
      have HD := hide (P.drop_at l k hlt)
      generalize l.getD k 0 = c at hc hb HD
      obtain ⟨hb0, hb1⟩ := hb
      clear hcell
      go_wp2
      all_goals first
        | (have hbad : (k = 9 ∧ 1 < c) ∨ (0 < k ∧ c = 0) := by
             (try simp only [beq_iff_eq, beq_eq_false_iff_ne, ne_eq] at *)
             omega
           have hv : P.take l = (0, 0, 4) := by rw [HT.out, HD.out, P.take_bad _ _ _ _ hbad]
           go_ret3
           exact ⟨by rw [hv]; rfl, rfl⟩)
        | (have hgood : (¬ ((k = 9 ∧ 1 < c) ∨ (0 < k ∧ c = 0))) ∧ c < 128 := by
             (try simp only [beq_eq_false_iff_ne, ne_eq] at *)
             omega
           have hs := P.or_step k X (c % 128) hX0 HX.out (by omega) (by omega) (by omega)
           have hv : P.take l = (X + c % 128 * 128 ^ k, (k : Int) + 1, 0) := by rw [HT.out, HD.out, P.take_last _ _ _ _ hgood.1 hgood.2]
           go_ret3
           exact ⟨by rw [hv, ← hs]; rfl, rfl⟩)
        | (have hgood : (¬ ((k = 9 ∧ 1 < c) ∨ (0 < k ∧ c = 0))) ∧ ¬ c < 128 := by
             (try simp only [beq_eq_false_iff_ne, ne_eq] at *)
             omega
           have hs := P.or_step k X (c % 128) hX0 HX.out (by omega) (by omega) (by omega)
           have hf := P.digit_fits k (c % 128) (by omega) (by omega) (by omega)
           have hv : P.take l = P.takeL (k + 1) (X + c % 128 * 128 ^ k) (l.drop (k + 1)) := by rw [HT.out, HD.out, P.take_more _ _ _ _ hgood.1 hgood.2]
           go_round
           case rel => exact ⟨k + 1, _, by omega, by omega, by go_num, by rw [hs], by omega, P.step_lt k X _ HX.out (by omega), hv⟩
           case measure => simp [intOf]; omega)
        | (obtain rfl : k = 9 := by omega
           have hgood : (¬ ((9 = 9 ∧ 1 < c) ∨ (0 < 9 ∧ c = 0))) ∧ c < 128 := by
             (try simp only [beq_eq_false_iff_ne, ne_eq] at *)
             omega
           have hs := P.or_step9 X (c % 128) hX0 HX.out (by omega) (by omega)
           have hv : P.take l = (X + c % 128 * 128 ^ 9, ((9 : Nat) : Int) + 1, 0) := by rw [HT.out, HD.out, P.take_last _ _ _ _ hgood.1 hgood.2]
           go_ret3
           exact ⟨by rw [hv, ← hs]; rfl, rfl⟩)
    · go_wp2
      have hv : P.take l = (0, 0, 3) := by rw [HT.out, List.drop_eq_nil_of_le (by omega)]; rfl
      go_ret3
      exact ⟨by rw [hv]; rfl, rfl⟩
end Go.Proofs.Ytimenpceegcboaa
