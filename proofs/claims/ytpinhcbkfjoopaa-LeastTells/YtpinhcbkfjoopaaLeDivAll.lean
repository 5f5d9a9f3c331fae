/- Several texts in one. -/
import Derived.Test.YtpinhcbkfjoopaaSoLenAll
/- What bits.LeadingZeros64 and bits.Div64 answer (of a number above 0 and below the divisor, with noughts behind it). -/
namespace Go.Proofs.Ytpinhcbkfjoopaa
open Go.RowKit
set_option linter.unusedVariables false
set_option linter.unusedSimpArgs false
set_option maxHeartbeats 4000000 in
theorem lz_u (x : Nat) (w : World) (h1 : x < 18446744073709551616) :
    Calls Try.prog 41 #[.int .u64 x] w fun e w' => e = .returned (.int .i64 ((64 - Lib.bitLen x : Nat) : Int)) ∧ w' = w := by
  have HL := hide (len64_any (x : Int) w (by omega) (by omega))
  have hb := bitLen_le64 x h1
  go_enter Try.func41, Try.ntmps41
  go_wp2_with (go_at_call 55; refine HL.out.mono ?_; rintro e w' ⟨rfl, rfl⟩; rw [Int.toNat_natCast])
  generalize Lib.bitLen x = k at *
  obtain ⟨s, hs⟩ : ∃ s, s = 64 - k := ⟨_, rfl⟩
  have e : IntKind.i64.wrap (64 - (k : Int)) = (s : Int) := by rw [IntKind.wrap_i64]; omega
  have e2 : (64 - (k : Int)) = (s : Int) := by omega
  rw [← hs]
  clear hs
  go_wp2
  go_ret
  exact ⟨by rw [← e2]; rfl, rfl⟩
theorem bitLen_up (x : Nat) (h : x < 18446744073709551616) : x < 2 ^ Lib.bitLen x := by
  induction x using Nat.strongRecOn with
  | ind x ih =>
    rcases Nat.eq_zero_or_pos x with h0 | h0
    · subst h0; decide
    · rw [Lib.bitLen_half x (by omega) (by simpa using h)]
      have := ih (x / 2) (by omega) (by omega)
      rw [Nat.pow_add]
      omega
namespace P
/-- A digit of the quotient, as it is guessed: what holds of it. -/
structure Dig (u y1 y0 q r : Nat) : Prop where
  sum : q * y1 + r = u
  low : u * 4294967296 / (y1 * 4294967296 + y0) ≤ q
  top : q ≤ 4294967297
theorem Dig.first {u y1 y0 : Nat} (h1 : 2147483648 ≤ y1) (h2 : y1 < 4294967296) (h3 : y0 < 4294967296) (hu : u < y1 * 4294967296 + y0) : Dig u y1 y0 (u / y1) (u % y1) := by
  refine ⟨by rw [Nat.mul_comm]; exact Nat.div_add_mod u y1, ?_, ?_⟩
  · rw [Nat.le_div_iff_mul_le (by omega)]
    have h := Nat.div_mul_le_self (u * 4294967296) (y1 * 4294967296 + y0)
    generalize u * 4294967296 / (y1 * 4294967296 + y0) = Q at *
    rw [Nat.mul_add, ← Nat.mul_assoc] at h
    generalize Q * y1 = a at *
    generalize Q * y0 = b at *
    omega
  · have : u / y1 < 4294967298 := by rw [Nat.div_lt_iff_lt_mul (by omega)]; omega
    omega
/-- A guess that is too great. -/
theorem Dig.less {u y1 y0 q r : Nat} (h : Dig u y1 y0 q r) (h1 : 2147483648 ≤ y1) (h3 : y0 < 4294967296) (hu : u < y1 * 4294967296 + y0) (hc : 4294967296 ≤ q ∨ 4294967296 * r < q * y0) : 0 < q ∧ Dig u y1 y0 (q - 1) (r + y1) := by
  have hq : u * 4294967296 / (y1 * 4294967296 + y0) < q := by
    rw [Nat.div_lt_iff_lt_mul (by omega)]
    rcases hc with hc | hc
    · have : (y1 * 4294967296 + y0) * 4294967296 ≤ q * (y1 * 4294967296 + y0) := by rw [Nat.mul_comm]; exact Nat.mul_le_mul_right _ hc
      omega
    · have hs := h.sum
      rw [Nat.mul_add, ← Nat.mul_assoc]
      generalize q * y1 = a at *
      generalize q * y0 = b at *
      omega
  have hq0 : 0 < q := Nat.lt_of_le_of_lt (Nat.zero_le _) hq
  refine ⟨hq0, ?_, Nat.le_sub_one_of_lt hq, by have := h.top; omega⟩
  have hs := h.sum
  obtain ⟨p, rfl⟩ : ∃ p, q = p + 1 := ⟨q - 1, by omega⟩
  rw [Nat.add_mul] at hs
  rw [Nat.add_sub_cancel]
  omega
/-- A guess that is not too great. -/
theorem Dig.done {u y1 y0 q r : Nat} (h : Dig u y1 y0 q r) (h1 : 2147483648 ≤ y1) (hc : q * y0 ≤ 4294967296 * r) : q = u * 4294967296 / (y1 * 4294967296 + y0) := by
  refine Nat.le_antisymm ?_ h.low
  rw [Nat.le_div_iff_mul_le (by omega)]
  have hs := h.sum
  rw [Nat.mul_add, ← Nat.mul_assoc]
  generalize q * y1 = a at *
  generalize q * y0 = b at *
  omega
/-- .. for it is so where the rest is great. -/
theorem Dig.great {u y1 y0 q r : Nat} (h : Dig u y1 y0 q r) (h3 : y0 < 4294967296) (hq : q ≤ 4294967296) (hr : 4294967296 ≤ r) : q * y0 ≤ 4294967296 * r := by
  have : q * y0 ≤ 4294967296 * 4294967296 := Nat.mul_le_mul hq (by omega)
  omega
end P
theorem P.norm (hi y s : Nat) (hy : hi < y) (h2 : 2 ^ s * y < 18446744073709551616) : hi * 2 ^ s < y * 2 ^ s ∧ y * 2 ^ s < 18446744073709551616 := by
  have hp : 0 < 2 ^ s := Nat.two_pow_pos s
  exact ⟨Nat.mul_lt_mul_of_pos_right hy hp, by rw [Nat.mul_comm]; exact h2⟩
theorem P.two_digits (U Y : Nat) (hY : 0 < Y) : U * 18446744073709551616 / Y = U * 4294967296 / Y * 4294967296 + U * 4294967296 % Y * 4294967296 / Y := by
  have e : U * 18446744073709551616 = Y * (U * 4294967296 / Y * 4294967296) + U * 4294967296 % Y * 4294967296 := by
    rw [← Nat.mul_assoc, ← Nat.add_mul, Nat.div_add_mod]; omega
  rw [e, Nat.mul_add_div hY]
set_option maxHeartbeats 8000000 in
set_option maxRecDepth 100000 in
theorem div64_u (hi y : Nat) (w : World) (h0 : 1 ≤ hi) (hy : hi < y) (h1 : y < 18446744073709551616) :
    Calls Try.prog 31 #[.int .u64 hi, .int .u64 0, .int .u64 y] w fun e w' => ∃ r, e = .returned (.tuple #[.int .u64 ((hi * 18446744073709551616 / y : Nat) : Int), .int .u64 r]) ∧ w' = w := by
  have HL := hide (lz_u y w h1)
  have hb := bitLen_le64 y h1
  have hup := bitLen_up y h1
  have hge := bitLen_ge y (by omega) h1
  obtain ⟨s, hs⟩ : ∃ s, s = 64 - Lib.bitLen y := ⟨_, rfl⟩
  rw [← hs] at HL
  have hpow : 2 ^ s * 2 ^ Lib.bitLen y = 18446744073709551616 := by rw [← Nat.pow_add, hs, Nat.sub_add_cancel hb]
  have hs64 : s < 64 := by
    have : 0 < Lib.bitLen y := by
      rcases Nat.eq_zero_or_pos (Lib.bitLen y) with h | h
      · rw [h] at hup; simp at hup; omega
      · exact h
    omega
  obtain ⟨z, hz⟩ : ∃ z, 2 ^ s = z := ⟨_, rfl⟩
  have hz0 : 0 < z := by rw [← hz]; exact Nat.two_pow_pos s
  obtain ⟨Y, hY⟩ : ∃ Y, y * z = Y := ⟨_, rfl⟩
  obtain ⟨U, hU⟩ : ∃ U, hi * z = U := ⟨_, rfl⟩
  have hY1 : Y < 18446744073709551616 := by
    rw [← hY, ← hpow, hz, Nat.mul_comm]; exact Nat.mul_lt_mul_of_pos_left hup hz0
  have hY2 : 9223372036854775808 ≤ Y := by
    rw [hz] at hpow
    have := Nat.mul_le_mul_left z hge
    rw [hpow, Nat.mul_left_comm, Nat.mul_comm z y, hY] at this
    omega
  have hUY : U < Y := by rw [← hY, ← hU]; exact Nat.mul_lt_mul_of_pos_right hy hz0
  have hfin : hi * 18446744073709551616 / y = U * 18446744073709551616 / Y := by
    rw [← hU, ← hY, Nat.mul_right_comm, Nat.mul_div_mul_right _ _ hz0]
  have ez : ((2 : Int) ^ s) = (z : Int) := by rw [← hz]; simp
  have ey : IntKind.u64.wrap ((y : Int) * 2 ^ s) = (Y : Int) := by rw [ez, ← Int.natCast_mul, hY, IntKind.wrap_u64]; omega
  have eu : IntKind.u64.wrap ((hi : Int) * 2 ^ s) = (U : Int) := by rw [ez, ← Int.natCast_mul, hU, IntKind.wrap_u64]; omega
  obtain ⟨y1, hy1⟩ : ∃ y1, y1 = Y / 4294967296 := ⟨_, rfl⟩
  obtain ⟨y0, hy0⟩ : ∃ y0, y0 = Y % 4294967296 := ⟨_, rfl⟩
  have hYY : Y = y1 * 4294967296 + y0 := by omega
  have hy1a : 2147483648 ≤ y1 := by omega
  have hy1b : y1 < 4294967296 := by omega
  have hy0b : y0 < 4294967296 := by omega
  have ey1 : (Y : Int) / 4294967296 = (y1 : Int) := by omega
  have ey0 : bits BinOp.and IntKind.u64 (Y : Int) 4294967295 = (y0 : Int) := by
    have := u64_and_nat Y 4294967295 hY1 (by decide)
    rw [show ((4294967295 : Nat) : Int) = 4294967295 from rfl] at this
    rw [this, hy0]
    congr 1
    exact Nat.and_two_pow_sub_one_eq_mod Y 32
  have eor : bits BinOp.or IntKind.u64 (U : Int) 0 = (U : Int) := by
    have := u64_or_nat U 0 (by omega) (by decide)
    simpa using this
  have e00 : bits BinOp.and IntKind.u64 0 4294967295 = 0 := by decide
  have e01 : IntKind.u64.wrap (0 : Int) = 0 := by decide
  have hd0 : ((y : Int) == 0) = false := by simp; omega
  have hd1 : decide ((y : Int) ≤ (hi : Int)) = false := by simp; omega
  have hd1n : decide (y ≤ hi) = false := by simp; omega
  have hd2 : ((hi : Int) == 0) = false := by simp; omega
  rw [hfin]
  obtain ⟨D, hD⟩ : ∃ D, U * 18446744073709551616 / Y = D := ⟨_, rfl⟩
  rw [hD]
  have HDD := hide hD
  clear hD
  have HS := hide hYY
  clear hfin hY hU hz hpow hup hge hs hb hy1 hy0 hYY ez h0 h1 hz0
  go_enter Try.func31, Try.ntmps31
  go_wp2_with fail
  refine HL.out.mono ?_
  rintro e w' ⟨rfl, rfl⟩
  clear HL
  go_upto_region 15 with fail
  obtain ⟨q0, hq0⟩ : ∃ q0, q0 = U / y1 := ⟨_, rfl⟩
  obtain ⟨r0, hr0'⟩ : ∃ r0, r0 = U % y1 := ⟨_, rfl⟩
  obtain ⟨m0, hm0⟩ : ∃ m0, m0 = q0 * y1 := ⟨_, rfl⟩
  have HD : Hid (P.Dig U y1 y0 q0 r0) := hide (by rw [hq0, hr0']; exact P.Dig.first hy1a hy1b hy0b (by have := HS.out; omega))
  have hr0 : r0 < 4294967296 := by have := Nat.mod_lt U (show 0 < y1 by omega); omega
  have eq1 : (U : Int).tdiv (y1 : Int) = (q0 : Int) := by rw [Int.tdiv_eq_ediv_of_nonneg (by omega), ← Int.natCast_ediv, hq0]
  have eq2 : (U : Int) / (y1 : Int) = (q0 : Int) := by rw [← Int.natCast_ediv, hq0]
  have hsum : m0 + r0 = U := by rw [hm0]; exact HD.out.sum
  have em0 : IntKind.u64.wrap ((q0 : Int) * (y1 : Int)) = (m0 : Int) := by rw [← Int.natCast_mul, ← hm0, IntKind.wrap_u64]; omega
  have eq3 : IntKind.u64.wrap (q0 : Int) = (q0 : Int) := by have := HD.out.top; rw [IntKind.wrap_u64]; omega
  have er0 : IntKind.u64.wrap ((U : Int) - (m0 : Int)) = (r0 : Int) := by rw [IntKind.wrap_u64]; omega
  have hy1z : ((y1 : Int) == 0) = false := by simp; omega
  have hy1n : ¬ (y1 : Int) = 0 := by omega
  clear hq0 hr0' hm0 hsum
  go_wp2
  go_loopw [15, 16] (fun a b wr => ∃ q r : Nat, a = .int .u64 q ∧ b = .int .u64 r ∧ Hid (P.Dig U y1 y0 q r) ∧ q ≤ 4294967297 ∧ r < 4294967296 ∧ wr = w') (fun a _ _ => (intOf a).toNat)
  case atStart => exact ⟨_, _, rfl, rfl, HD, HD.out.top, hr0, by first | rfl | trivial⟩
  case round =>
    clear HD hr0
    obtain ⟨q, r, rfl, rfl, HD, hq, hr, rfl⟩ := hrel
    obtain ⟨p, hp⟩ : ∃ p, p = q * y0 := ⟨_, rfl⟩
    obtain ⟨b, hb⟩ : ∃ b, b = 4294967296 * r := ⟨_, rfl⟩
    obtain ⟨r', hr'⟩ : ∃ r', r' = r + y1 := ⟨_, rfl⟩
    have hpl : p ≤ 4294967297 * 4294967295 := by rw [hp]; exact Nat.mul_le_mul hq (by omega)
    have ep : IntKind.u64.wrap ((q : Int) * (y0 : Int)) = (p : Int) := by rw [← Int.natCast_mul, ← hp, IntKind.wrap_u64]; omega
    have eb : IntKind.u64.wrap (4294967296 * (r : Int)) = (b : Int) := by rw [IntKind.wrap_u64]; omega
    have eb2 : IntKind.u64.wrap ((b : Int)) = (b : Int) := by rw [IntKind.wrap_u64]; omega
    have er : IntKind.u64.wrap ((r : Int) + (y1 : Int)) = (r' : Int) := by rw [IntKind.wrap_u64]; omega
    have HP := hide hp
    have HBB := hide hb
    have HRR := hide hr'
    clear hp hb
    by_cases hc : 4294967296 ≤ q ∨ b < p
    · have hless := HD.out.less hy1a hy0b (by have := HS.out; omega) (by rw [← HP.out, ← HBB.out]; exact hc)
      obtain ⟨q', hq'⟩ : ∃ q', q' + 1 = q := ⟨q - 1, by omega⟩
      have eq' : IntKind.u64.wrap ((q : Int) - 1) = (q' : Int) := by rw [IntKind.wrap_u64]; omega
      have HD2 : Hid (P.Dig U y1 y0 q' r') := hide (by rw [hr', show q' = q - 1 by omega]; exact hless.2)
      have hqq : q' < q := by omega
      have hql : q' ≤ 4294967296 := by omega
      have hdc : (decide (4294967296 ≤ (q : Int)) = true) ∨ (decide (4294967296 ≤ (q : Int)) = false ∧ decide (b < p) = true ∧ b < p) := by
        by_cases h : 4294967296 ≤ q
        · left; simp; omega
        · right; exact ⟨by simp; omega, by simp; omega, by omega⟩
      clear hless hq' hr' hc
      by_cases hrb : 4294967296 ≤ r'
      · have hdr : decide (4294967296 ≤ (r' : Int)) = true := by simp; omega
        have HQ := hide (HD2.out.done hy1a (HD2.out.great hy0b hql hrb))
        clear HD HD2
        rcases hdc with hdc | ⟨hdc, hdc2, hbp⟩
        · have HQ1 : Hid (q' = U * 4294967296 / Y) := hide (by rw [HS.out]; exact HQ.out)
          clear HQ
          obtain ⟨V, hV⟩ : ∃ V, V = U * 4294967296 % Y := ⟨_, rfl⟩
          have hVY : V < Y := by rw [hV]; exact Nat.mod_lt _ (by omega)
          have HV := hide hV
          obtain ⟨M, hM⟩ : ∃ M, M = q' * Y := ⟨_, rfl⟩
          have hVs : M + V = U * 4294967296 := by rw [hM, HQ1.out, hV, Nat.mul_comm]; exact Nat.div_add_mod _ _
          have hd1 : q' < 4294967296 := by rw [HQ1.out, Nat.div_lt_iff_lt_mul (by omega)]; omega
          obtain ⟨a, ha⟩ : ∃ a, a = U * 4294967296 % 18446744073709551616 := ⟨_, rfl⟩
          obtain ⟨b2, hb2⟩ : ∃ b2, b2 = M % 18446744073709551616 := ⟨_, rfl⟩
          have ew1 : IntKind.u64.wrap ((U : Int) * 4294967296) = (a : Int) := by rw [IntKind.wrap_u64]; omega
          have ea : IntKind.u64.wrap ((a : Int)) = (a : Int) := by rw [IntKind.wrap_u64]; omega
          have eb3 : IntKind.u64.wrap ((q' : Int) * (Y : Int)) = (b2 : Int) := by rw [← Int.natCast_mul, ← hM, IntKind.wrap_u64]; omega
          have ev : IntKind.u64.wrap ((a : Int) - (b2 : Int)) = (V : Int) := by rw [IntKind.wrap_u64]; omega
          have HF : Hid (∀ x, x = V * 4294967296 / (y1 * 4294967296 + y0) → q' * 4294967296 + x = D ∧ D < 18446744073709551616) := hide (fun x hx => by
            rw [← HS.out] at hx
            refine ⟨?_, ?_⟩
            · rw [← HDD.out, hx, HV.out, HQ1.out]; exact (P.two_digits U Y (by omega)).symm
            · rw [← HDD.out, Nat.div_lt_iff_lt_mul (by omega)]; omega)
          clear hV hM hVs ha hb2
          obtain ⟨q0, hq0⟩ : ∃ q0, q0 = V / y1 := ⟨_, rfl⟩
          obtain ⟨r0, hr0'⟩ : ∃ r0, r0 = V % y1 := ⟨_, rfl⟩
          obtain ⟨m0, hm0⟩ : ∃ m0, m0 = q0 * y1 := ⟨_, rfl⟩
          have HD : Hid (P.Dig V y1 y0 q0 r0) := hide (by rw [hq0, hr0']; exact P.Dig.first hy1a hy1b hy0b (by have := HS.out; omega))
          have hr0 : r0 < 4294967296 := by have := Nat.mod_lt V (show 0 < y1 by omega); omega
          have eq1 : (V : Int).tdiv (y1 : Int) = (q0 : Int) := by rw [Int.tdiv_eq_ediv_of_nonneg (by omega), ← Int.natCast_ediv, hq0]
          have eq2 : (V : Int) / (y1 : Int) = (q0 : Int) := by rw [← Int.natCast_ediv, hq0]
          have hsum : m0 + r0 = V := by rw [hm0]; exact HD.out.sum
          have em0 : IntKind.u64.wrap ((q0 : Int) * (y1 : Int)) = (m0 : Int) := by rw [← Int.natCast_mul, ← hm0, IntKind.wrap_u64]; omega
          have eq3 : IntKind.u64.wrap (q0 : Int) = (q0 : Int) := by have := HD.out.top; rw [IntKind.wrap_u64]; omega
          have er0 : IntKind.u64.wrap ((V : Int) - (m0 : Int)) = (r0 : Int) := by rw [IntKind.wrap_u64]; omega
          have hy1z : ((y1 : Int) == 0) = false := by simp; omega
          have hy1n : ¬ (y1 : Int) = 0 := by omega
          clear hq0 hr0' hm0 hsum
          clear HQ1 HV
          go_wp2
          go_loopw [18, 16] (fun a b wy => ∃ k r : Nat, a = .int .u64 k ∧ b = .int .u64 r ∧ Hid (P.Dig V y1 y0 k r) ∧ k ≤ 4294967297 ∧ r < 4294967296 ∧ wy = wr) (fun a _ _ => (intOf a).toNat)
          case atStart => exact ⟨_, _, rfl, rfl, HD, HD.out.top, hr0, by first | rfl | trivial⟩
          case round =>
            clear HD hr0
            obtain ⟨k, r, rfl, rfl, HD, hq, hr, rfl⟩ := hrel
            obtain ⟨p, hp⟩ : ∃ p, p = k * y0 := ⟨_, rfl⟩
            obtain ⟨b, hb⟩ : ∃ b, b = 4294967296 * r := ⟨_, rfl⟩
            obtain ⟨r', hr'⟩ : ∃ r', r' = r + y1 := ⟨_, rfl⟩
            have hpl : p ≤ 4294967297 * 4294967295 := by rw [hp]; exact Nat.mul_le_mul hq (by omega)
            have ep : IntKind.u64.wrap ((k : Int) * (y0 : Int)) = (p : Int) := by rw [← Int.natCast_mul, ← hp, IntKind.wrap_u64]; omega
            have eb : IntKind.u64.wrap (4294967296 * (r : Int)) = (b : Int) := by rw [IntKind.wrap_u64]; omega
            have eb2 : IntKind.u64.wrap ((b : Int)) = (b : Int) := by rw [IntKind.wrap_u64]; omega
            have er : IntKind.u64.wrap ((r : Int) + (y1 : Int)) = (r' : Int) := by rw [IntKind.wrap_u64]; omega
            have HP := hide hp
            have HBB := hide hb
            have HRR := hide hr'
            clear hp hb
            by_cases hc : 4294967296 ≤ k ∨ b < p
            · have hless := HD.out.less hy1a hy0b (by have := HS.out; omega) (by rw [← HP.out, ← HBB.out]; exact hc)
              obtain ⟨k', hq'⟩ : ∃ k', k' + 1 = k := ⟨k - 1, by omega⟩
              have eq' : IntKind.u64.wrap ((k : Int) - 1) = (k' : Int) := by rw [IntKind.wrap_u64]; omega
              have HD2 : Hid (P.Dig V y1 y0 k' r') := hide (by rw [hr', show k' = k - 1 by omega]; exact hless.2)
              have hqq : k' < k := by omega
              have hql : k' ≤ 4294967296 := by omega
              have hdc : (decide (4294967296 ≤ (k : Int)) = true) ∨ (decide (4294967296 ≤ (k : Int)) = false ∧ decide (b < p) = true ∧ b < p) := by
                by_cases h : 4294967296 ≤ k
                · left; simp; omega
                · right; exact ⟨by simp; omega, by simp; omega, by omega⟩
              clear hless hq' hr' hc
              by_cases hrb : 4294967296 ≤ r'
              · have hdr : decide (4294967296 ≤ (r' : Int)) = true := by simp; omega
                have HQ := hide (HD2.out.done hy1a (HD2.out.great hy0b hql hrb))
                clear HD HD2
                rcases hdc with hdc | ⟨hdc, hdc2, hbp⟩
                · have hf := HF.out k' HQ.out
                  obtain ⟨c, hc'⟩ : ∃ c, c = q' * 4294967296 := ⟨_, rfl⟩
                  have ec : IntKind.u64.wrap ((q' : Int) * 4294967296) = (c : Int) := by rw [IntKind.wrap_u64]; omega
                  have ed : IntKind.u64.wrap ((c : Int) + (k' : Int)) = (D : Int) := by rw [IntKind.wrap_u64]; omega
                  clear hf hc'
                  go_wp2
                  refine bodyPost_ret (results_tmp2 rfl _ _ _) rfl ?_
                  exact ⟨_, rfl, by first | rfl | trivial⟩
                · have hf := HF.out k' HQ.out
                  obtain ⟨c, hc'⟩ : ∃ c, c = q' * 4294967296 := ⟨_, rfl⟩
                  have ec : IntKind.u64.wrap ((q' : Int) * 4294967296) = (c : Int) := by rw [IntKind.wrap_u64]; omega
                  have ed : IntKind.u64.wrap ((c : Int) + (k' : Int)) = (D : Int) := by rw [IntKind.wrap_u64]; omega
                  clear hf hc'
                  go_wp2
                  refine bodyPost_ret (results_tmp2 rfl _ _ _) rfl ?_
                  exact ⟨_, rfl, by first | rfl | trivial⟩
              · have hdr : decide (4294967296 ≤ (r' : Int)) = false := by simp; omega
                rcases hdc with hdc | ⟨hdc, hdc2, hbp⟩
                · go_wp2
                  go_roundw
                  case rel => exact ⟨k', r', rfl, rfl, HD2, by omega, by omega, by first | rfl | trivial⟩
                  case measure => simp [intOf]; omega
                · go_wp2
                  go_roundw
                  case rel => exact ⟨k', r', rfl, rfl, HD2, by omega, by omega, by first | rfl | trivial⟩
                  case measure => simp [intOf]; omega
            · have hdc : decide (4294967296 ≤ (k : Int)) = false := by simp; omega
              have hdc2 : decide (b < p) = false := by simp; omega
              have hbp : ¬ b < p := by omega
              have HQ := hide (HD.out.done hy1a (by rw [← HP.out, ← HBB.out]; omega))
              clear HD hc hr'
              have hf := HF.out k HQ.out
              obtain ⟨c, hc'⟩ : ∃ c, c = q' * 4294967296 := ⟨_, rfl⟩
              have ec : IntKind.u64.wrap ((q' : Int) * 4294967296) = (c : Int) := by rw [IntKind.wrap_u64]; omega
              have ed : IntKind.u64.wrap ((c : Int) + (k : Int)) = (D : Int) := by rw [IntKind.wrap_u64]; omega
              clear hf hc'
              go_wp2
              refine bodyPost_ret (results_tmp2 rfl _ _ _) rfl ?_
              exact ⟨_, rfl, by first | rfl | trivial⟩
        · have HQ1 : Hid (q' = U * 4294967296 / Y) := hide (by rw [HS.out]; exact HQ.out)
          clear HQ
          obtain ⟨V, hV⟩ : ∃ V, V = U * 4294967296 % Y := ⟨_, rfl⟩
          have hVY : V < Y := by rw [hV]; exact Nat.mod_lt _ (by omega)
          have HV := hide hV
          obtain ⟨M, hM⟩ : ∃ M, M = q' * Y := ⟨_, rfl⟩
          have hVs : M + V = U * 4294967296 := by rw [hM, HQ1.out, hV, Nat.mul_comm]; exact Nat.div_add_mod _ _
          have hd1 : q' < 4294967296 := by rw [HQ1.out, Nat.div_lt_iff_lt_mul (by omega)]; omega
          obtain ⟨a, ha⟩ : ∃ a, a = U * 4294967296 % 18446744073709551616 := ⟨_, rfl⟩
          obtain ⟨b2, hb2⟩ : ∃ b2, b2 = M % 18446744073709551616 := ⟨_, rfl⟩
          have ew1 : IntKind.u64.wrap ((U : Int) * 4294967296) = (a : Int) := by rw [IntKind.wrap_u64]; omega
          have ea : IntKind.u64.wrap ((a : Int)) = (a : Int) := by rw [IntKind.wrap_u64]; omega
          have eb3 : IntKind.u64.wrap ((q' : Int) * (Y : Int)) = (b2 : Int) := by rw [← Int.natCast_mul, ← hM, IntKind.wrap_u64]; omega
          have ev : IntKind.u64.wrap ((a : Int) - (b2 : Int)) = (V : Int) := by rw [IntKind.wrap_u64]; omega
          have HF : Hid (∀ x, x = V * 4294967296 / (y1 * 4294967296 + y0) → q' * 4294967296 + x = D ∧ D < 18446744073709551616) := hide (fun x hx => by
            rw [← HS.out] at hx
            refine ⟨?_, ?_⟩
            · rw [← HDD.out, hx, HV.out, HQ1.out]; exact (P.two_digits U Y (by omega)).symm
            · rw [← HDD.out, Nat.div_lt_iff_lt_mul (by omega)]; omega)
          clear hV hM hVs ha hb2
          obtain ⟨q0, hq0⟩ : ∃ q0, q0 = V / y1 := ⟨_, rfl⟩
          obtain ⟨r0, hr0'⟩ : ∃ r0, r0 = V % y1 := ⟨_, rfl⟩
          obtain ⟨m0, hm0⟩ : ∃ m0, m0 = q0 * y1 := ⟨_, rfl⟩
          have HD : Hid (P.Dig V y1 y0 q0 r0) := hide (by rw [hq0, hr0']; exact P.Dig.first hy1a hy1b hy0b (by have := HS.out; omega))
          have hr0 : r0 < 4294967296 := by have := Nat.mod_lt V (show 0 < y1 by omega); omega
          have eq1 : (V : Int).tdiv (y1 : Int) = (q0 : Int) := by rw [Int.tdiv_eq_ediv_of_nonneg (by omega), ← Int.natCast_ediv, hq0]
          have eq2 : (V : Int) / (y1 : Int) = (q0 : Int) := by rw [← Int.natCast_ediv, hq0]
          have hsum : m0 + r0 = V := by rw [hm0]; exact HD.out.sum
          have em0 : IntKind.u64.wrap ((q0 : Int) * (y1 : Int)) = (m0 : Int) := by rw [← Int.natCast_mul, ← hm0, IntKind.wrap_u64]; omega
          have eq3 : IntKind.u64.wrap (q0 : Int) = (q0 : Int) := by have := HD.out.top; rw [IntKind.wrap_u64]; omega
          have er0 : IntKind.u64.wrap ((V : Int) - (m0 : Int)) = (r0 : Int) := by rw [IntKind.wrap_u64]; omega
          have hy1z : ((y1 : Int) == 0) = false := by simp; omega
          have hy1n : ¬ (y1 : Int) = 0 := by omega
          clear hq0 hr0' hm0 hsum
          clear HQ1 HV
          go_wp2
          go_loopw [18, 16] (fun a b wy => ∃ k r : Nat, a = .int .u64 k ∧ b = .int .u64 r ∧ Hid (P.Dig V y1 y0 k r) ∧ k ≤ 4294967297 ∧ r < 4294967296 ∧ wy = wr) (fun a _ _ => (intOf a).toNat)
          case atStart => exact ⟨_, _, rfl, rfl, HD, HD.out.top, hr0, by first | rfl | trivial⟩
          case round =>
            clear HD hr0
            obtain ⟨k, r, rfl, rfl, HD, hq, hr, rfl⟩ := hrel
            obtain ⟨p, hp⟩ : ∃ p, p = k * y0 := ⟨_, rfl⟩
            obtain ⟨b, hb⟩ : ∃ b, b = 4294967296 * r := ⟨_, rfl⟩
            obtain ⟨r', hr'⟩ : ∃ r', r' = r + y1 := ⟨_, rfl⟩
            have hpl : p ≤ 4294967297 * 4294967295 := by rw [hp]; exact Nat.mul_le_mul hq (by omega)
            have ep : IntKind.u64.wrap ((k : Int) * (y0 : Int)) = (p : Int) := by rw [← Int.natCast_mul, ← hp, IntKind.wrap_u64]; omega
            have eb : IntKind.u64.wrap (4294967296 * (r : Int)) = (b : Int) := by rw [IntKind.wrap_u64]; omega
            have eb2 : IntKind.u64.wrap ((b : Int)) = (b : Int) := by rw [IntKind.wrap_u64]; omega
            have er : IntKind.u64.wrap ((r : Int) + (y1 : Int)) = (r' : Int) := by rw [IntKind.wrap_u64]; omega
            have HP := hide hp
            have HBB := hide hb
            have HRR := hide hr'
            clear hp hb
            by_cases hc : 4294967296 ≤ k ∨ b < p
            · have hless := HD.out.less hy1a hy0b (by have := HS.out; omega) (by rw [← HP.out, ← HBB.out]; exact hc)
              obtain ⟨k', hq'⟩ : ∃ k', k' + 1 = k := ⟨k - 1, by omega⟩
              have eq' : IntKind.u64.wrap ((k : Int) - 1) = (k' : Int) := by rw [IntKind.wrap_u64]; omega
              have HD2 : Hid (P.Dig V y1 y0 k' r') := hide (by rw [hr', show k' = k - 1 by omega]; exact hless.2)
              have hqq : k' < k := by omega
              have hql : k' ≤ 4294967296 := by omega
              have hdc : (decide (4294967296 ≤ (k : Int)) = true) ∨ (decide (4294967296 ≤ (k : Int)) = false ∧ decide (b < p) = true ∧ b < p) := by
                by_cases h : 4294967296 ≤ k
                · left; simp; omega
                · right; exact ⟨by simp; omega, by simp; omega, by omega⟩
              clear hless hq' hr' hc
              by_cases hrb : 4294967296 ≤ r'
              · have hdr : decide (4294967296 ≤ (r' : Int)) = true := by simp; omega
                have HQ := hide (HD2.out.done hy1a (HD2.out.great hy0b hql hrb))
                clear HD HD2
                rcases hdc with hdc | ⟨hdc, hdc2, hbp⟩
                · have hf := HF.out k' HQ.out
                  obtain ⟨c, hc'⟩ : ∃ c, c = q' * 4294967296 := ⟨_, rfl⟩
                  have ec : IntKind.u64.wrap ((q' : Int) * 4294967296) = (c : Int) := by rw [IntKind.wrap_u64]; omega
                  have ed : IntKind.u64.wrap ((c : Int) + (k' : Int)) = (D : Int) := by rw [IntKind.wrap_u64]; omega
                  clear hf hc'
                  go_wp2
                  refine bodyPost_ret (results_tmp2 rfl _ _ _) rfl ?_
                  exact ⟨_, rfl, by first | rfl | trivial⟩
                · have hf := HF.out k' HQ.out
                  obtain ⟨c, hc'⟩ : ∃ c, c = q' * 4294967296 := ⟨_, rfl⟩
                  have ec : IntKind.u64.wrap ((q' : Int) * 4294967296) = (c : Int) := by rw [IntKind.wrap_u64]; omega
                  have ed : IntKind.u64.wrap ((c : Int) + (k' : Int)) = (D : Int) := by rw [IntKind.wrap_u64]; omega
                  clear hf hc'
                  go_wp2
                  refine bodyPost_ret (results_tmp2 rfl _ _ _) rfl ?_
                  exact ⟨_, rfl, by first | rfl | trivial⟩
              · have hdr : decide (4294967296 ≤ (r' : Int)) = false := by simp; omega
                rcases hdc with hdc | ⟨hdc, hdc2, hbp⟩
                · go_wp2
                  go_roundw
                  case rel => exact ⟨k', r', rfl, rfl, HD2, by omega, by omega, by first | rfl | trivial⟩
                  case measure => simp [intOf]; omega
                · go_wp2
                  go_roundw
                  case rel => exact ⟨k', r', rfl, rfl, HD2, by omega, by omega, by first | rfl | trivial⟩
                  case measure => simp [intOf]; omega
            · have hdc : decide (4294967296 ≤ (k : Int)) = false := by simp; omega
              have hdc2 : decide (b < p) = false := by simp; omega
              have hbp : ¬ b < p := by omega
              have HQ := hide (HD.out.done hy1a (by rw [← HP.out, ← HBB.out]; omega))
              clear HD hc hr'
              have hf := HF.out k HQ.out
              obtain ⟨c, hc'⟩ : ∃ c, c = q' * 4294967296 := ⟨_, rfl⟩
              have ec : IntKind.u64.wrap ((q' : Int) * 4294967296) = (c : Int) := by rw [IntKind.wrap_u64]; omega
              have ed : IntKind.u64.wrap ((c : Int) + (k : Int)) = (D : Int) := by rw [IntKind.wrap_u64]; omega
              clear hf hc'
              go_wp2
              refine bodyPost_ret (results_tmp2 rfl _ _ _) rfl ?_
              exact ⟨_, rfl, by first | rfl | trivial⟩
      · have hdr : decide (4294967296 ≤ (r' : Int)) = false := by simp; omega
        rcases hdc with hdc | ⟨hdc, hdc2, hbp⟩
        · go_wp2
          go_roundw
          case rel => exact ⟨q', r', rfl, rfl, HD2, by omega, by omega, by first | rfl | trivial⟩
          case measure => simp [intOf]; omega
        · go_wp2
          go_roundw
          case rel => exact ⟨q', r', rfl, rfl, HD2, by omega, by omega, by first | rfl | trivial⟩
          case measure => simp [intOf]; omega
    · have hdc : decide (4294967296 ≤ (q : Int)) = false := by simp; omega
      have hdc2 : decide (b < p) = false := by simp; omega
      have hbp : ¬ b < p := by omega
      have HQ := hide (HD.out.done hy1a (by rw [← HP.out, ← HBB.out]; omega))
      clear HD hc hr'
      have HQ1 : Hid (q = U * 4294967296 / Y) := hide (by rw [HS.out]; exact HQ.out)
      clear HQ
      obtain ⟨V, hV⟩ : ∃ V, V = U * 4294967296 % Y := ⟨_, rfl⟩
      have hVY : V < Y := by rw [hV]; exact Nat.mod_lt _ (by omega)
      have HV := hide hV
      obtain ⟨M, hM⟩ : ∃ M, M = q * Y := ⟨_, rfl⟩
      have hVs : M + V = U * 4294967296 := by rw [hM, HQ1.out, hV, Nat.mul_comm]; exact Nat.div_add_mod _ _
      have hd1 : q < 4294967296 := by rw [HQ1.out, Nat.div_lt_iff_lt_mul (by omega)]; omega
      obtain ⟨a, ha⟩ : ∃ a, a = U * 4294967296 % 18446744073709551616 := ⟨_, rfl⟩
      obtain ⟨b2, hb2⟩ : ∃ b2, b2 = M % 18446744073709551616 := ⟨_, rfl⟩
      have ew1 : IntKind.u64.wrap ((U : Int) * 4294967296) = (a : Int) := by rw [IntKind.wrap_u64]; omega
      have ea : IntKind.u64.wrap ((a : Int)) = (a : Int) := by rw [IntKind.wrap_u64]; omega
      have eb3 : IntKind.u64.wrap ((q : Int) * (Y : Int)) = (b2 : Int) := by rw [← Int.natCast_mul, ← hM, IntKind.wrap_u64]; omega
      have ev : IntKind.u64.wrap ((a : Int) - (b2 : Int)) = (V : Int) := by rw [IntKind.wrap_u64]; omega
      have HF : Hid (∀ x, x = V * 4294967296 / (y1 * 4294967296 + y0) → q * 4294967296 + x = D ∧ D < 18446744073709551616) := hide (fun x hx => by
        rw [← HS.out] at hx
        refine ⟨?_, ?_⟩
        · rw [← HDD.out, hx, HV.out, HQ1.out]; exact (P.two_digits U Y (by omega)).symm
        · rw [← HDD.out, Nat.div_lt_iff_lt_mul (by omega)]; omega)
      clear hV hM hVs ha hb2
      obtain ⟨q0, hq0⟩ : ∃ q0, q0 = V / y1 := ⟨_, rfl⟩
      obtain ⟨r0, hr0'⟩ : ∃ r0, r0 = V % y1 := ⟨_, rfl⟩
      obtain ⟨m0, hm0⟩ : ∃ m0, m0 = q0 * y1 := ⟨_, rfl⟩
      have HD : Hid (P.Dig V y1 y0 q0 r0) := hide (by rw [hq0, hr0']; exact P.Dig.first hy1a hy1b hy0b (by have := HS.out; omega))
      have hr0 : r0 < 4294967296 := by have := Nat.mod_lt V (show 0 < y1 by omega); omega
      have eq1 : (V : Int).tdiv (y1 : Int) = (q0 : Int) := by rw [Int.tdiv_eq_ediv_of_nonneg (by omega), ← Int.natCast_ediv, hq0]
      have eq2 : (V : Int) / (y1 : Int) = (q0 : Int) := by rw [← Int.natCast_ediv, hq0]
      have hsum : m0 + r0 = V := by rw [hm0]; exact HD.out.sum
      have em0 : IntKind.u64.wrap ((q0 : Int) * (y1 : Int)) = (m0 : Int) := by rw [← Int.natCast_mul, ← hm0, IntKind.wrap_u64]; omega
      have eq3 : IntKind.u64.wrap (q0 : Int) = (q0 : Int) := by have := HD.out.top; rw [IntKind.wrap_u64]; omega
      have er0 : IntKind.u64.wrap ((V : Int) - (m0 : Int)) = (r0 : Int) := by rw [IntKind.wrap_u64]; omega
      have hy1z : ((y1 : Int) == 0) = false := by simp; omega
      have hy1n : ¬ (y1 : Int) = 0 := by omega
      clear hq0 hr0' hm0 hsum
      clear HQ1 HV
      go_wp2
      go_loopw [18, 16] (fun a b wy => ∃ k r : Nat, a = .int .u64 k ∧ b = .int .u64 r ∧ Hid (P.Dig V y1 y0 k r) ∧ k ≤ 4294967297 ∧ r < 4294967296 ∧ wy = wr) (fun a _ _ => (intOf a).toNat)
      case atStart => exact ⟨_, _, rfl, rfl, HD, HD.out.top, hr0, by first | rfl | trivial⟩
      case round =>
        clear HD hr0
        obtain ⟨k, r, rfl, rfl, HD, hq, hr, rfl⟩ := hrel
        obtain ⟨p, hp⟩ : ∃ p, p = k * y0 := ⟨_, rfl⟩
        obtain ⟨b, hb⟩ : ∃ b, b = 4294967296 * r := ⟨_, rfl⟩
        obtain ⟨r', hr'⟩ : ∃ r', r' = r + y1 := ⟨_, rfl⟩
        have hpl : p ≤ 4294967297 * 4294967295 := by rw [hp]; exact Nat.mul_le_mul hq (by omega)
        have ep : IntKind.u64.wrap ((k : Int) * (y0 : Int)) = (p : Int) := by rw [← Int.natCast_mul, ← hp, IntKind.wrap_u64]; omega
        have eb : IntKind.u64.wrap (4294967296 * (r : Int)) = (b : Int) := by rw [IntKind.wrap_u64]; omega
        have eb2 : IntKind.u64.wrap ((b : Int)) = (b : Int) := by rw [IntKind.wrap_u64]; omega
        have er : IntKind.u64.wrap ((r : Int) + (y1 : Int)) = (r' : Int) := by rw [IntKind.wrap_u64]; omega
        have HP := hide hp
        have HBB := hide hb
        have HRR := hide hr'
        clear hp hb
        by_cases hc : 4294967296 ≤ k ∨ b < p
        · have hless := HD.out.less hy1a hy0b (by have := HS.out; omega) (by rw [← HP.out, ← HBB.out]; exact hc)
          obtain ⟨k', hq'⟩ : ∃ k', k' + 1 = k := ⟨k - 1, by omega⟩
          have eq' : IntKind.u64.wrap ((k : Int) - 1) = (k' : Int) := by rw [IntKind.wrap_u64]; omega
          have HD2 : Hid (P.Dig V y1 y0 k' r') := hide (by rw [hr', show k' = k - 1 by omega]; exact hless.2)
          have hqq : k' < k := by omega
          have hql : k' ≤ 4294967296 := by omega
          have hdc : (decide (4294967296 ≤ (k : Int)) = true) ∨ (decide (4294967296 ≤ (k : Int)) = false ∧ decide (b < p) = true ∧ b < p) := by
            by_cases h : 4294967296 ≤ k
            · left; simp; omega
            · right; exact ⟨by simp; omega, by simp; omega, by omega⟩
          clear hless hq' hr' hc
          by_cases hrb : 4294967296 ≤ r'
          · have hdr : decide (4294967296 ≤ (r' : Int)) = true := by simp; omega
            have HQ := hide (HD2.out.done hy1a (HD2.out.great hy0b hql hrb))
            clear HD HD2
            rcases hdc with hdc | ⟨hdc, hdc2, hbp⟩
            · have hf := HF.out k' HQ.out
              obtain ⟨c, hc'⟩ : ∃ c, c = q * 4294967296 := ⟨_, rfl⟩
              have ec : IntKind.u64.wrap ((q : Int) * 4294967296) = (c : Int) := by rw [IntKind.wrap_u64]; omega
              have ed : IntKind.u64.wrap ((c : Int) + (k' : Int)) = (D : Int) := by rw [IntKind.wrap_u64]; omega
              clear hf hc'
              go_wp2
              refine bodyPost_ret (results_tmp2 rfl _ _ _) rfl ?_
              exact ⟨_, rfl, by first | rfl | trivial⟩
            · have hf := HF.out k' HQ.out
              obtain ⟨c, hc'⟩ : ∃ c, c = q * 4294967296 := ⟨_, rfl⟩
              have ec : IntKind.u64.wrap ((q : Int) * 4294967296) = (c : Int) := by rw [IntKind.wrap_u64]; omega
              have ed : IntKind.u64.wrap ((c : Int) + (k' : Int)) = (D : Int) := by rw [IntKind.wrap_u64]; omega
              clear hf hc'
              go_wp2
              refine bodyPost_ret (results_tmp2 rfl _ _ _) rfl ?_
              exact ⟨_, rfl, by first | rfl | trivial⟩
          · have hdr : decide (4294967296 ≤ (r' : Int)) = false := by simp; omega
            rcases hdc with hdc | ⟨hdc, hdc2, hbp⟩
            · go_wp2
              go_roundw
              case rel => exact ⟨k', r', rfl, rfl, HD2, by omega, by omega, by first | rfl | trivial⟩
              case measure => simp [intOf]; omega
            · go_wp2
              go_roundw
              case rel => exact ⟨k', r', rfl, rfl, HD2, by omega, by omega, by first | rfl | trivial⟩
              case measure => simp [intOf]; omega
        · have hdc : decide (4294967296 ≤ (k : Int)) = false := by simp; omega
          have hdc2 : decide (b < p) = false := by simp; omega
          have hbp : ¬ b < p := by omega
          have HQ := hide (HD.out.done hy1a (by rw [← HP.out, ← HBB.out]; omega))
          clear HD hc hr'
          have hf := HF.out k HQ.out
          obtain ⟨c, hc'⟩ : ∃ c, c = q * 4294967296 := ⟨_, rfl⟩
          have ec : IntKind.u64.wrap ((q : Int) * 4294967296) = (c : Int) := by rw [IntKind.wrap_u64]; omega
          have ed : IntKind.u64.wrap ((c : Int) + (k : Int)) = (D : Int) := by rw [IntKind.wrap_u64]; omega
          clear hf hc'
          go_wp2
          refine bodyPost_ret (results_tmp2 rfl _ _ _) rfl ?_
          exact ⟨_, rfl, by first | rfl | trivial⟩
end Go.Proofs.Ytpinhcbkfjoopaa
