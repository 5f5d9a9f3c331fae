/- What bits.Zig, bits.Zag and bits.Put answer at every number. -/
import Derived.Test.YtimenpceegcboaaKit
import Derived.Test.YtimenpceegcboaaPlain
import Derived.WalkKit
import Derived.WalkSpells
import Derived.WalkLawsBesides
namespace Go.Proofs.Ytimenpceegcboaa
open Go.RowKit
set_option linter.unusedVariables false

theorem zig_any (n : Int) (w : World) (h0 : -9223372036854775808 ≤ n) (h1 : n ≤ 9223372036854775807) :
    Calls Try.prog 11 #[.int .i64 n] w fun e w' => e = .returned (.int .u64 (P.zig n)) ∧ w' = w := by
  go_enter Try.func11, Try.ntmps11
  go_wp2
  go_ret
  exact ⟨ret_int (P.zig_bits n h0 h1), rfl⟩
theorem zag_any (n : Int) (w : World) (h0 : 0 ≤ n) (h1 : n ≤ 18446744073709551615) :
    Calls Try.prog 13 #[.int .u64 n] w fun e w' => e = .returned (.int .i64 (P.zag n)) ∧ w' = w := by
  go_enter Try.func13, Try.ntmps13
  go_wp2
  go_ret
  exact ⟨ret_int (P.zag_bits n h0 h1), rfl⟩

set_option maxHeartbeats 1000000 in
theorem put_any (u : Int) (w : World) (h0 : 0 ≤ u) (h1 : u ≤ 18446744073709551615) :
    Calls Try.prog 16 #[.int .u64 u] w fun e w' => ∃ v, e = .returned v ∧ OwnB w' w.heap.size v (P.put u) ∧ Below w.heap.size w w' := by
  go_enter Try.func16, Try.ntmps16
  go_wp2
  go_loopw [0, 3] (fun x v wr => ∃ (f : Nat) (y : Int) (acc : List Int), 0 ≤ y ∧ y ≤ 18446744073709551615 ∧ x = .int .u64 y ∧ y < 2 * 128 ^ f ∧ acc.length + f = 9 ∧ P.put u = acc ++ P.putL f y ∧ OwnB wr w.heap.size v acc ∧ Below w.heap.size w wr)
    (fun x _ _ => (intOf x).toNat)
  case atStart => exact ⟨9, u, [], h0, h1, rfl, by omega, rfl, rfl, World.ownsRow_nil _ _ _ _, Below.refl _ _⟩
  case round =>
    obtain ⟨f, y, acc, hy0, hy1, rfl, hyf, hal, hput, hown, hb⟩ := hrel
    have HP := hide hput
    have HF := hide hyf
    clear hput hyf
    have hbs := hb.size
    by_cases hlt : 128 ≤ y
    · obtain ⟨g, rfl, hpl, hyg⟩ := P.putL_step f y hlt HF.out
      have HR := hide hpl
      have HG := hide hyg
      clear hpl hyg
      go_wp2_with (at_builtin; go_must (refine wp_app1 rfl _ _ rfl w.heap.size w.heap.size w _ _ acc (y % 128 + 128) hown hb (Nat.le_refl _) rfl rfl (by omega) hbs ?_); intro v' w1 hown' hb' hsz _)
      go_roundw
      case rel => exact ⟨g, y / 128, acc ++ [y % 128 + 128], by omega, by omega, rfl, HG.out, by simp; omega, by rw [HP.out, HR.out]; simp, hown', hb'⟩
      case measure => simp [intOf]; omega
    · have HR := hide (P.putL_small f y (by omega))
      go_wp2_with (at_builtin; go_must (refine wp_app1 rfl _ _ rfl w.heap.size w.heap.size w _ _ acc y hown hb (Nat.le_refl _) rfl rfl (by omega) hbs ?_); intro v' w1 hown' hb' hsz _)
      go_ret
      exact ⟨v', rfl, by rw [HP.out, HR.out]; exact hown', hb'⟩
end Go.Proofs.Ytimenpceegcboaa
