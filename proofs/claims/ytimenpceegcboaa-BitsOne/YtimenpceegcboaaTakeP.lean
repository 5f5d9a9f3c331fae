/- Plain functions and lemmas: a number read at the front of bytes. -/
import Derived.Test.YtimenpceegcboaaPlain
namespace Go.Proofs.Ytimenpceegcboaa
namespace P
/-- What reading at place k, with u gathered, comes to: the number, how many bytes, the error. -/
def takeL : Nat → Int → List Int → Int × Int × Int
  | _, _, [] => (0, 0, 3)
  | k, u, c :: r => if (k = 9 ∧ 1 < c) ∨ (0 < k ∧ c = 0) then (0, 0, 4) else
      if c < 128 then (u + c % 128 * 128 ^ k, (k : Int) + 1, 0) else takeL (k + 1) (u + c % 128 * 128 ^ k) r
def take (l : List Int) : Int × Int × Int := takeL 0 0 l

theorem pow7 (k : Nat) : (2 : Int) ^ (7 * k) = 128 ^ k := by
  rw [Int.pow_mul]; rfl
theorem pow128_le (k : Nat) (h : k ≤ 9) : (128 : Int) ^ k ≤ 9223372036854775808 := by
  have h2 : (128 : Int) ^ k ≤ 128 ^ 9 := by
    have h3 : (128 : Nat) ^ k ≤ 128 ^ 9 := Nat.pow_le_pow_right (by decide) h
    exact_mod_cast h3
  have h4 : (128 : Int) ^ 9 = 9223372036854775808 := by decide
  omega
theorem pow128_le8 (k : Nat) (h : k ≤ 8) : (128 : Int) ^ k ≤ 72057594037927936 := by
  have h2 : (128 : Int) ^ k ≤ 128 ^ 8 := by
    have h3 : (128 : Nat) ^ k ≤ 128 ^ 8 := Nat.pow_le_pow_right (by decide) h
    exact_mod_cast h3
  have h4 : (128 : Int) ^ 8 = 72057594037927936 := by decide
  omega
theorem pow128_pos (k : Nat) : (0 : Int) < 128 ^ k := Int.pow_pos (by decide)
/-- A digit fits. -/
theorem digit_fits (k : Nat) (d : Int) (h0 : 0 ≤ d) (h1 : d < 128) (hk : k ≤ 8 ∨ k = 9 ∧ d ≤ 1) : 0 ≤ d * 128 ^ k ∧ d * 128 ^ k ≤ 9223372036854775808 := by
  have hp := pow128_pos k
  refine ⟨Int.mul_nonneg h0 (by omega), ?_⟩
  rcases hk with hk | ⟨rfl, hd⟩
  · have h2 := pow128_le8 k hk
    have h3 : d * 128 ^ k ≤ 127 * 128 ^ k := Int.mul_le_mul_of_nonneg_right (by omega) (by omega)
    omega
  · have h4 : (128 : Int) ^ 9 = 9223372036854775808 := by decide
    rw [h4]; omega
theorem or_step (k : Nat) (u d : Int) (hu0 : 0 ≤ u) (hu : u < 128 ^ k) (h0 : 0 ≤ d) (h1 : d < 128) (hk : k ≤ 8 ∨ k = 9 ∧ d ≤ 1) :
    bits .or .u64 u (IntKind.u64.wrap (d * 2 ^ (7 * k))) = u + d * 128 ^ k := by
  rw [pow7]
  have hf := digit_fits k d h0 h1 hk
  have hp := pow128_le k (by omega)
  rw [IntKind.wrap_u64, Int.emod_eq_of_lt (by omega) (by omega)]
  rw [u64_or u _ hu0 (by omega) hf.1 (by omega), Nat.or_comm]
  rw [nat_join (7 * k) _ _ ?_ ?_]
  · simp only [Int.natCast_add]
    rw [Int.toNat_of_nonneg hf.1, Int.toNat_of_nonneg hu0]; omega
  · have e : (d * 128 ^ k).toNat = d.toNat * 2 ^ (7 * k) := by
      rw [Int.toNat_mul h0 (by omega), Nat.pow_mul]
      congr 1
    rw [e]; simp
  · have h5 : (u.toNat : Int) < ((2 ^ (7 * k) : Nat) : Int) := by
      rw [Int.toNat_of_nonneg hu0]
      have : ((2 ^ (7 * k) : Nat) : Int) = (2 : Int) ^ (7 * k) := by simp
      rw [this, pow7]; exact hu
    exact_mod_cast h5
theorem or_step9 (u d : Int) (hu0 : 0 ≤ u) (hu : u < 128 ^ 9) (h0 : 0 ≤ d) (h1 : d ≤ 1) :
    bits .or .u64 u (d * 9223372036854775808) = u + d * 128 ^ 9 := by
  have h := or_step 9 u d hu0 hu h0 (by omega) (by omega)
  have e : (2 : Int) ^ (7 * 9) = 9223372036854775808 := by decide
  rw [e, IntKind.wrap_u64, Int.emod_eq_of_lt (by omega) (by omega)] at h
  exact h
theorem step_lt (k : Nat) (u d : Int) (hu : u < 128 ^ k) (h1 : d < 128) : u + d * 128 ^ k < 128 ^ (k + 1) := by
  have hp := pow128_pos k
  have h3 : d * 128 ^ k ≤ 127 * 128 ^ k := Int.mul_le_mul_of_nonneg_right (by omega) (by omega)
  rw [Int.pow_succ]; omega
theorem take_nil (k : Nat) (u : Int) : takeL k u [] = (0, 0, 3) := rfl
theorem take_bad (k : Nat) (u c : Int) (r : List Int) (h : (k = 9 ∧ 1 < c) ∨ (0 < k ∧ c = 0)) : takeL k u (c :: r) = (0, 0, 4) := by rw [takeL, if_pos h]
theorem take_last (k : Nat) (u c : Int) (r : List Int) (h : ¬ ((k = 9 ∧ 1 < c) ∨ (0 < k ∧ c = 0))) (h2 : c < 128) : takeL k u (c :: r) = (u + c % 128 * 128 ^ k, (k : Int) + 1, 0) := by rw [takeL, if_neg h, if_pos h2]
theorem take_more (k : Nat) (u c : Int) (r : List Int) (h : ¬ ((k = 9 ∧ 1 < c) ∨ (0 < k ∧ c = 0))) (h2 : ¬ c < 128) : takeL k u (c :: r) = takeL (k + 1) (u + c % 128 * 128 ^ k) r := by rw [takeL, if_neg h, if_neg h2]
theorem drop_at (l : List Int) (k : Nat) (h : k < l.length) : l.drop k = l.getD k 0 :: l.drop (k + 1) := by
  rw [List.drop_eq_getElem_cons h]; simp [List.getD_eq_getElem?_getD, List.getElem?_eq_getElem h]
end P
end Go.Proofs.Ytimenpceegcboaa
