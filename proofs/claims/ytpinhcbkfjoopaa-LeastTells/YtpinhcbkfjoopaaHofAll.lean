/- Several texts in one. -/
import Derived.Test.YtpinhcbkfjoopaaHmixAll
/- What Of of package hash answers. -/
namespace Go.Proofs.Ytpinhcbkfjoopaa
open Go.RowKit
set_option linter.unusedVariables false

theorem wrap_step (x k : Nat) (c : Int) (hc : 0 ≤ c) : IntKind.u64.wrap (IntKind.u64.wrap ((x : Int) + c) + IntKind.u64.wrap (256 * (k : Int))) = (((x + c.toNat + 256 * k) % 18446744073709551616 : Nat) : Int) := by
  simp only [IntKind.wrap_u64]
  omega
theorem wrap_step' (x k : Nat) (c : Int) (hc : 0 ≤ c) : IntKind.u64.wrap (IntKind.u64.wrap ((x : Int) + c) + IntKind.u64.wrap ((k : Int) * 256)) = (((x + c.toNat + 256 * k) % 18446744073709551616 : Nat) : Int) := by
  simp only [IntKind.wrap_u64]
  omega
set_option maxHeartbeats 1000000 in
theorem of_any (s : Nat) (v : Value) (l : List Int) (w : World) (hs : s < 18446744073709551616) (hr : RowB w v l) (hbt : Byt l) :
    Calls Try.prog 25 #[.int .u64 s, v] w fun e w' => e = .returned (.int .u64 (P.hof s l : Nat)) ∧ w' = w := by
  obtain ⟨a, cap, rfl, ⟨hlc, hmax, _⟩, hcase⟩ := hr
  unfold maxLen at hmax
  have HM := hide (fun w => mix_any s w hs)
  have e0 : P.mix s = P.hof s (l.take 0) := by simp [P.hof, P.hgo]
  rw [e0] at HM
  go_enter Try.func25, Try.ntmps25
  go_wp2_with (go_at_call 37; refine (HM.out _).mono ?_; rintro e w' ⟨rfl, rfl⟩)
  go_loop [5, 12] (fun h i => ∃ k : Nat, k ≤ l.length ∧ i = .int .i64 k ∧ h = .int .u64 (P.hof s (l.take k) : Nat)) (fun _ i => l.length - (intOf i).toNat)
  case atStart => exact ⟨0, by omega, rfl, rfl⟩
  case round =>
    obtain ⟨k, hk, rfl, rfl⟩ := hrel
    by_cases hlt : k < l.length
    · rcases hcase with h | ⟨b, off, rfl, hbs, hcell⟩
      · rw [h] at hlt; simp at hlt
      have hc := hcell k hlt
      have hb := hbt.at k
      have HF := hide (P.hof_front s l k hlt)
      have hl := P.hof_lt s (l.take k)
      generalize l.getD k 0 = c at hc hb HF
      generalize P.hof s (l.take k) = x at HF hl ⊢
      obtain ⟨hb0, hb1⟩ := hb
      have HS := hide (wrap_step x k c hb0)
      have HX := hide (fun w => mix_any ((x + c.toNat + 256 * k) % 18446744073709551616) w (Nat.mod_lt _ (by decide)))
      have HF' : Hid (P.mix ((x + c.toNat + 256 * k) % 18446744073709551616) = P.hof s (l.take (k + 1))) := HF.out.symm
      rw [HF'.out] at HX
      generalize (x + c.toNat + 256 * k) % 18446744073709551616 = y at HS HX
      clear hcell HM e0 HF HF'
      go_wp2_with (go_at_call 37; rw [HS.out]; refine (HX.out _).mono ?_; rintro e w' ⟨rfl, rfl⟩)
      go_round
      case rel => exact ⟨k + 1, by omega, by go_num, rfl⟩
      case measure => simp [intOf]; omega
    · obtain rfl : k = l.length := by omega
      go_wp2
      go_ret
      exact ⟨rfl, rfl⟩
end Go.Proofs.Ytpinhcbkfjoopaa
