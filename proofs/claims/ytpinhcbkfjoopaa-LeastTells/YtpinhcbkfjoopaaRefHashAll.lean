/- Several texts in one. -/
import Derived.Test.YtpinhcbkfjoopaaHofAll
/- What the document's own times, Mixed and HashOf answer. -/
namespace Go.Proofs.Ytpinhcbkfjoopaa
open Go.RowKit
set_option linter.unusedVariables false
theorem P.dbl (a b n X : Nat) (h : (n + a * b) % 18446744073709551616 = X) (hb : b % 2 = 0) : (n + (a + a) % 18446744073709551616 * (b / 2)) % 18446744073709551616 = X := by
  obtain ⟨c, rfl⟩ : ∃ c, b = 2 * c := ⟨b / 2, by omega⟩
  rw [Nat.mul_div_cancel_left c (by decide), Nat.add_mod, Nat.mod_mul_mod, ← Nat.add_mod, ← h]
  congr 1
  rw [Nat.add_mul, ← Nat.mul_assoc, Nat.mul_comm a 2, Nat.mul_assoc]
  omega
theorem P.dbl1 (a b n X : Nat) (h : (n + a * b) % 18446744073709551616 = X) (hb : b % 2 = 1) : ((n + a) % 18446744073709551616 + (a + a) % 18446744073709551616 * (b / 2)) % 18446744073709551616 = X := by
  obtain ⟨c, rfl⟩ : ∃ c, b = 2 * c + 1 := ⟨b / 2, by omega⟩
  have e : (2 * c + 1) / 2 = c := by omega
  rw [e, Nat.add_mod, Nat.mod_mod, Nat.mod_mul_mod, ← Nat.add_mod, ← h]
  congr 1
  rw [Nat.add_mul, Nat.mul_add, ← Nat.mul_assoc, Nat.mul_comm a 2, Nat.mul_assoc]
  omega
theorem wrap_addN (a b : Nat) : IntKind.u64.wrap ((a : Int) + (b : Int)) = (((a + b) % 18446744073709551616 : Nat) : Int) := by
  rw [IntKind.wrap_u64]; omega
set_option maxHeartbeats 1000000 in
theorem times_any (A B : Nat) (w : World) (hA : A < 18446744073709551616) (hB : B < 18446744073709551616) :
    Calls Try.prog 42 #[.int .u64 A, .int .u64 B] w fun e w' => e = .returned (.int .u64 (P.mu A B : Nat)) ∧ w' = w := by
  have e0 : P.mu A B = A * B % 18446744073709551616 := rfl
  rw [e0]
  have hX := Nat.mod_lt (A * B) (show 0 < 18446744073709551616 by decide)
  have h0 : (0 + A * B) % 18446744073709551616 = A * B % 18446744073709551616 := by rw [Nat.zero_add]
  generalize A * B % 18446744073709551616 = X at h0 hX ⊢
  go_enter Try.func42, Try.ntmps42
  go_wp2
  go_loop [0, 1, 5] (fun a b n => ∃ x y z : Nat, a = .int .u64 x ∧ b = .int .u64 y ∧ n = .int .u64 z ∧ x < 18446744073709551616 ∧ y < 18446744073709551616 ∧ z < 18446744073709551616 ∧ (z + x * y) % 18446744073709551616 = X) (fun _ b _ => (intOf b).toNat)
  case atStart => exact ⟨A, B, 0, rfl, rfl, rfl, hA, hB, by decide, h0⟩
  case round =>
    obtain ⟨x, y, z, rfl, rfl, rfl, hx, hy, hz, hrel⟩ := hrel
    clear h0 hA hB e0
    by_cases hp : 0 < y
    · have HA := hide (wrap_addN z x)
      have HD := hide (wrap_addN x x)
      by_cases hodd : y % 2 = 1
      · have HR := hide (P.dbl1 x y z X hrel hodd)
        have hb : ((y : Int) % 2 == 1) = true := by simp; omega
        clear hrel hodd
        go_wp2
        go_round
        case rel => exact ⟨(x + x) % 18446744073709551616, y / 2, (z + x) % 18446744073709551616, by rw [← HD.out], by simp, by rw [← HA.out], Nat.mod_lt _ (by decide), by omega, Nat.mod_lt _ (by decide), HR.out⟩
        case measure => simp [intOf]; omega
      · have HR := hide (P.dbl x y z X hrel (by omega))
        have hb : ((y : Int) % 2 == 1) = false := by simp; omega
        clear hrel hodd
        go_wp2
        go_round
        case rel => exact ⟨(x + x) % 18446744073709551616, y / 2, z, by rw [← HD.out], by simp, rfl, Nat.mod_lt _ (by decide), by omega, hz, HR.out⟩
        case measure => simp [intOf]; omega
    · obtain rfl : y = 0 := by omega
      have HR : Hid (z = X) := by
        show _ = _
        rw [Nat.mul_zero, Nat.add_zero, Nat.mod_eq_of_lt hz] at hrel
        exact hrel
      clear hrel
      go_wp2
      go_ret
      exact ⟨ret_int (congrArg Int.ofNat HR.out), rfl⟩
theorem mixed_any (n : Nat) (w : World) (h : n < 18446744073709551616) :
    Calls Try.prog 33 #[.int .u64 n] w fun e w' => e = .returned (.int .u64 (P.mix n : Nat)) ∧ w' = w := by
  have H1 := xor_sx 29 n 536870912 h rfl
  have l1 := P.sx_lt 29 n h
  have e0 : P.mix n = P.sx 28 (P.mu (P.sx 32 (P.mu (P.sx 29 n) P.fac1)) P.fac2) := rfl
  rw [e0]
  generalize P.sx 29 n = a at H1 l1 ⊢
  have T1 : Hid (∀ w, Calls Try.prog 42 #[.int .u64 a, .int .u64 10321020848683521121] w fun e w' => e = .returned (.int .u64 (P.mu a P.fac1 : Nat)) ∧ w' = w) := fun w => times_any a P.fac1 w l1 (by decide)
  have k1 := P.mu_lt a P.fac1
  generalize P.mu a P.fac1 = b at T1 k1 ⊢
  have H2 := xor_sx 32 b 4294967296 k1 rfl
  have l2 := P.sx_lt 32 b k1
  generalize P.sx 32 b = c at H2 l2 ⊢
  have T2 : Hid (∀ w, Calls Try.prog 42 #[.int .u64 c, .int .u64 7694936916205891629] w fun e w' => e = .returned (.int .u64 (P.mu c P.fac2 : Nat)) ∧ w' = w) := fun w => times_any c P.fac2 w l2 (by decide)
  have k2 := P.mu_lt c P.fac2
  generalize P.mu c P.fac2 = d at T2 k2 ⊢
  have H3 := xor_sx 28 d 268435456 k2 rfl
  have l3 := P.sx_lt 28 d k2
  generalize P.sx 28 d = r at H3 l3 ⊢
  go_enter Try.func33, Try.ntmps33
  go_wp2_with (go_at_call 42; first
    | (with_reducible refine (T1.out _).mono ?_; rintro e w' ⟨rfl, rfl⟩)
    | (with_reducible refine (T2.out _).mono ?_; rintro e w' ⟨rfl, rfl⟩))
  go_ret
  exact ⟨rfl, rfl⟩
set_option maxHeartbeats 1000000 in
theorem hashOf_any (s : Nat) (v : Value) (l : List Int) (w : World) (hs : s < 18446744073709551616) (hr : RowB w v l) (hbt : Byt l) :
    Calls Try.prog 16 #[.int .u64 s, v] w fun e w' => e = .returned (.int .u64 (P.hof s l : Nat)) ∧ w' = w := by
  obtain ⟨a, cap, rfl, ⟨hlc, hmax, _⟩, hcase⟩ := hr
  unfold maxLen at hmax
  have HM := hide (fun w => mixed_any s w hs)
  have e0 : P.mix s = P.hof s (l.take 0) := by simp [P.hof, P.hgo]
  rw [e0] at HM
  go_enter Try.func16, Try.ntmps16
  go_wp2_with (go_at_call 33; refine (HM.out _).mono ?_; rintro e w' ⟨rfl, rfl⟩)
  go_loop [5, 11] (fun h i => ∃ k : Nat, k ≤ l.length ∧ i = .int .i64 k ∧ h = .int .u64 (P.hof s (l.take k) : Nat)) (fun _ i => l.length - (intOf i).toNat)
  case atStart => exact ⟨0, by omega, rfl, rfl⟩
  case round =>
    obtain ⟨k, hk, rfl, rfl⟩ := hrel
    by_cases hlt : k < l.length
    · rcases hcase with h | ⟨b, off, rfl, hbs, hcell⟩
      · rw [h] at hlt; simp at hlt
      have hc := hcell k hlt
      have hb := hbt.at k
      have HF := hide (P.hof_front s l k hlt)
      have hl := P.hof_lt s (l.take k)
      generalize l.getD k 0 = c at hc hb HF
      generalize P.hof s (l.take k) = x at HF hl ⊢
      obtain ⟨hb0, hb1⟩ := hb
      have HS := hide (wrap_step' x k c hb0)
      have HX := hide (fun w => mixed_any ((x + c.toNat + 256 * k) % 18446744073709551616) w (Nat.mod_lt _ (by decide)))
      have HF' : Hid (P.mix ((x + c.toNat + 256 * k) % 18446744073709551616) = P.hof s (l.take (k + 1))) := HF.out.symm
      rw [HF'.out] at HX
      generalize (x + c.toNat + 256 * k) % 18446744073709551616 = y at HS HX
      clear hcell HM e0 HF HF'
      go_wp2_with (go_at_call 33; rw [HS.out]; refine (HX.out _).mono ?_; rintro e w' ⟨rfl, rfl⟩)
      go_round
      case rel => exact ⟨k + 1, by omega, by go_num, rfl⟩
      case measure => simp [intOf]; omega
    · obtain rfl : k = l.length := by omega
      go_wp2
      go_ret
      exact ⟨rfl, rfl⟩
end Go.Proofs.Ytpinhcbkfjoopaa
