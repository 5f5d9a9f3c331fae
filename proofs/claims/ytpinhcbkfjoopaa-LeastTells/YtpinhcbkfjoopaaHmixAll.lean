/- Several texts in one. -/
import Derived.Test.YtpinhcbkfjoopaaKitAll
import Derived.Test.YtpinhcbkfjoopaaHashPAll
import Derived.Laws.BitsAllLaws
import Derived.LoopN
/- What turn, unturn, inverse, Mix and Unmix of package hash answer. -/
namespace Go.Proofs.Ytpinhcbkfjoopaa
open Go.RowKit
set_option linter.unusedVariables false

theorem xor_sx (s n : Nat) (d : Int) (h : n < 18446744073709551616) (hd : d = ((2 ^ s : Nat) : Int)) : bits BinOp.xor IntKind.u64 (n : Int) ((n : Int) / d) = ((P.sx s n : Nat) : Int) := by
  subst hd
  have e : (n : Int) / ((2 ^ s : Nat) : Int) = ((n >>> s : Nat) : Int) := by rw [Nat.shiftRight_eq_div_pow]; simp
  have h2 : n >>> s ≤ n := by rw [Nat.shiftRight_eq_div_pow]; exact Nat.div_le_self _ _
  rw [e]
  exact u64_xor_nat n (n >>> s) h (by omega)
theorem xor_us (s n : Nat) (d : Int) (h : n < 18446744073709551616) (hd : d = ((2 ^ s : Nat) : Int)) : bits BinOp.xor IntKind.u64 (n : Int) (((P.sx s n : Nat) : Int) / d) = ((P.us s n : Nat) : Int) := by
  subst hd
  have e : ((P.sx s n : Nat) : Int) / ((2 ^ s : Nat) : Int) = ((P.sx s n >>> s : Nat) : Int) := by rw [Nat.shiftRight_eq_div_pow]; simp
  have h2 : P.sx s n >>> s ≤ P.sx s n := by rw [Nat.shiftRight_eq_div_pow]; exact Nat.div_le_self _ _
  have h3 := P.sx_lt s n h
  rw [e]
  exact u64_xor_nat n (P.sx s n >>> s) h (by omega)
theorem turn29 (n : Nat) (w : World) (h : n < 18446744073709551616) :
    Calls Try.prog 44 #[.int .u64 n, .int .u64 29] w fun e w' => e = .returned (.int .u64 (P.sx 29 n : Nat)) ∧ w' = w := by
  have hx := xor_sx 29 n 536870912 h rfl
  go_enter Try.func44, Try.ntmps44
  go_wp2
  go_ret
  exact ⟨rfl, rfl⟩
theorem turn32 (n : Nat) (w : World) (h : n < 18446744073709551616) :
    Calls Try.prog 44 #[.int .u64 n, .int .u64 32] w fun e w' => e = .returned (.int .u64 (P.sx 32 n : Nat)) ∧ w' = w := by
  have hx := xor_sx 32 n 4294967296 h rfl
  go_enter Try.func44, Try.ntmps44
  go_wp2
  go_ret
  exact ⟨rfl, rfl⟩
theorem turn28 (n : Nat) (w : World) (h : n < 18446744073709551616) :
    Calls Try.prog 44 #[.int .u64 n, .int .u64 28] w fun e w' => e = .returned (.int .u64 (P.sx 28 n : Nat)) ∧ w' = w := by
  have hx := xor_sx 28 n 268435456 h rfl
  go_enter Try.func44, Try.ntmps44
  go_wp2
  go_ret
  exact ⟨rfl, rfl⟩
theorem wrap_mu (n f : Nat) : IntKind.u64.wrap ((n : Int) * (f : Int)) = ((P.mu n f : Nat) : Int) := by
  rw [IntKind.wrap_u64]; unfold P.mu; simp
theorem mix_any (n : Nat) (w : World) (h : n < 18446744073709551616) :
    Calls Try.prog 37 #[.int .u64 n] w fun e w' => e = .returned (.int .u64 (P.mix n : Nat)) ∧ w' = w := by
  have H1 := hide (fun w => turn29 n w h)
  have l1 := P.sx_lt 29 n h
  have e0 : P.mix n = P.sx 28 (P.mu (P.sx 32 (P.mu (P.sx 29 n) P.fac1)) P.fac2) := rfl
  rw [e0]
  generalize P.sx 29 n = a at H1 l1 ⊢
  have m1 : IntKind.u64.wrap ((a : Int) * 10321020848683521121) = ((P.mu a P.fac1 : Nat) : Int) := wrap_mu a P.fac1
  have k1 := P.mu_lt a P.fac1
  generalize P.mu a P.fac1 = b at m1 k1 ⊢
  have H2 := hide (fun w => turn32 b w k1)
  have l2 := P.sx_lt 32 b k1
  generalize P.sx 32 b = c at H2 l2 ⊢
  have m2 : IntKind.u64.wrap ((c : Int) * 7694936916205891629) = ((P.mu c P.fac2 : Nat) : Int) := wrap_mu c P.fac2
  have k2 := P.mu_lt c P.fac2
  generalize P.mu c P.fac2 = d at m2 k2 ⊢
  have H3 := hide (fun w => turn28 d w k2)
  have l3 := P.sx_lt 28 d k2
  generalize P.sx 28 d = r at H3 l3 ⊢
  go_enter Try.func37, Try.ntmps37
  go_wp2_with (go_at_call 44; first
    | (with_reducible refine (H1.out _).mono ?_; rintro e w' ⟨rfl, rfl⟩)
    | (with_reducible refine (H2.out _).mono ?_; rintro e w' ⟨rfl, rfl⟩)
    | (with_reducible refine (H3.out _).mono ?_; rintro e w' ⟨rfl, rfl⟩))
  go_ret
  exact ⟨rfl, rfl⟩
end Go.Proofs.Ytpinhcbkfjoopaa
