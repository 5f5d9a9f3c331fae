/- Plain functions and lemmas on numbers and lists of bytes: zigzag, bytes of a number. -/
import Derived.Laws.BitsAllLaws
import Derived.RowKit
import Derived.IntWalk
namespace Go.Proofs.YteohlkpejdjenaaDoor
namespace P
def zig (n : Int) : Int := if 0 ≤ n then 2 * n else -2 * n - 1
def zag (u : Int) : Int := if u % 2 = 0 then u / 2 else -(u / 2) - 1
theorem xor_ones (a : Nat) (h : a < 18446744073709551616) : a ^^^ 18446744073709551615 = 18446744073709551615 - a := by
  have e : (BitVec.ofNat 64 a ^^^ BitVec.allOnes 64).toNat = (~~~ BitVec.ofNat 64 a).toNat := by rw [BitVec.xor_allOnes]
  rw [BitVec.toNat_xor, BitVec.toNat_not] at e
  simp at e
  rw [Nat.mod_eq_of_lt h] at e
  exact e
theorem zig_bits (n : Int) (h0 : -9223372036854775808 ≤ n) (h1 : n ≤ 9223372036854775807) :
    bits BinOp.xor IntKind.u64 (IntKind.u64.wrap (IntKind.u64.wrap n * 2)) (IntKind.u64.wrap (n / 9223372036854775808)) = zig n := by
  unfold zig
  rw [IntKind.wrap_u64, IntKind.wrap_u64, IntKind.wrap_u64]
  rw [u64_xor _ _ (by omega) (by omega) (by omega) (by omega)]
  by_cases h : 0 ≤ n
  · rw [if_pos h]
    have e : (n / 9223372036854775808) % 18446744073709551616 = 0 := by omega
    rw [e]
    simp
    omega
  · rw [if_neg h]
    have e : (n / 9223372036854775808) % 18446744073709551616 = 18446744073709551615 := by omega
    rw [e]
    have e2 : (18446744073709551615 : Int).toNat = 18446744073709551615 := rfl
    rw [e2, xor_ones _ (by omega)]
    omega
theorem zag_bits (n : Int) (h0 : 0 ≤ n) (h1 : n ≤ 18446744073709551615) :
    bits BinOp.xor IntKind.i64 (n / 2) (RowKit.wrap64 (-RowKit.wrap64 (bits BinOp.and IntKind.u64 n 1))) = zag n := by
  unfold zag
  have e1 : bits BinOp.and IntKind.u64 n 1 = n % 2 := bits_mask .u64 64 (by decide) (fun n a b => by rw [IntKind.wrap_u64]; omega) 1 (by decide) n h0 (by omega)
  rw [e1]
  by_cases h : n % 2 = 0
  · rw [if_pos h, h]
    have e : RowKit.wrap64 (-RowKit.wrap64 0) = 0 := by simp only [RowKit.wrap64]; decide
    rw [e]
    show IntKind.i64.wrap ((BitVec.ofInt 64 (n / 2) ^^^ BitVec.ofInt 64 0).toNat : Int) = _
    simp
    rw [IntKind.wrap_i64]
    omega
  · rw [if_neg h, show n % 2 = 1 by omega]
    have e : RowKit.wrap64 (-RowKit.wrap64 1) = -1 := by simp only [RowKit.wrap64]; decide
    rw [e]
    obtain ⟨m, hm⟩ := Int.eq_ofNat_of_zero_le (show 0 ≤ n / 2 by omega)
    rw [hm]
    show IntKind.i64.wrap ((BitVec.ofInt 64 (m : Int) ^^^ BitVec.ofInt 64 (-1)).toNat : Int) = _
    have h2 : BitVec.ofInt 64 (-1) = BitVec.allOnes 64 := by decide
    rw [h2, BitVec.xor_allOnes, BitVec.toNat_not, ofInt_u64 m (by omega), IntKind.wrap_i64]
    omega
theorem zig_range (n : Int) (h0 : -9223372036854775808 ≤ n) (h1 : n ≤ 9223372036854775807) : 0 ≤ zig n ∧ zig n ≤ 18446744073709551615 := by
  unfold zig; split <;> omega
theorem zag_range (n : Int) (h0 : 0 ≤ n) (h1 : n ≤ 18446744073709551615) : -9223372036854775808 ≤ zag n ∧ zag n ≤ 9223372036854775807 := by
  unfold zag; split <;> omega
theorem zag_zig (n : Int) : zag (zig n) = n := by
  unfold zag zig; split <;> split <;> omega
theorem zig_zag (u : Int) (h : 0 ≤ u) : zig (zag u) = u := by
  unfold zag zig; split <;> split <;> omega

/-- The bytes of a number, lowest first, with so much fuel. -/
def putL : Nat → Int → List Int
  | 0, u => [u]
  | f + 1, u => if u < 128 then [u] else (u % 128 + 128) :: putL f (u / 128)
def put (u : Int) : List Int := putL 9 u
theorem putL_small (f : Nat) (u : Int) (h : u < 128) : putL f u = [u] := by cases f <;> simp [putL, h]
theorem putL_step (f : Nat) (u : Int) (h : 128 ≤ u) (hb : u < 2 * 128 ^ f) : ∃ g, f = g + 1 ∧ putL f u = (u % 128 + 128) :: putL g (u / 128) ∧ u / 128 < 2 * 128 ^ g := by
  cases f with
  | zero => simp at hb; omega
  | succ g =>
    refine ⟨g, rfl, ?_, ?_⟩
    · rw [putL, if_neg (by omega)]
    · rw [Int.pow_succ] at hb; omega
theorem putL_len (f : Nat) (u : Int) : 1 ≤ (putL f u).length ∧ (putL f u).length ≤ f + 1 := by
  induction f generalizing u with
  | zero => simp [putL]
  | succ f ih =>
    rw [putL]
    split
    · simp
    · have := ih (u / 128); simp; omega
theorem put_len (u : Int) : 1 ≤ (put u).length ∧ (put u).length ≤ 10 := putL_len 9 u
theorem putL_mono (f : Nat) (a b : Int) (h0 : 0 ≤ a) (h : a ≤ b) : (putL f a).length ≤ (putL f b).length := by
  induction f generalizing a b with
  | zero => simp [putL]
  | succ f ih =>
    rw [putL, putL]
    split
    · split
      · simp
      · have := putL_len f (b / 128); simp
    · rw [if_neg (by omega)]
      have := ih (a / 128) (b / 128) (by omega) (by omega)
      simp; omega
theorem put_mono (a b : Int) (h0 : 0 ≤ a) (h : a ≤ b) : (put a).length ≤ (put b).length := putL_mono 9 a b h0 h
end P
end Go.Proofs.YteohlkpejdjenaaDoor
