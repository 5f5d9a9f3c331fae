/- What bits.bytesFor, bits.isWidth, bits.fits and bits.Check answer. -/
import Derived.Test.YteohlkpejdjenaaDoorFrame
import Derived.Test.YteohlkpejdjenaaDoorBitP
import Derived.Deep.QuietTactic
import Derived.BigQuiet
namespace Go.Proofs.YteohlkpejdjenaaDoor
open Go.RowKit
set_option linter.unusedVariables false

theorem bytesFor_any (n : Int) (w : World) (h0 : 0 ≤ n) (h1 : n ≤ 9223372036854775807) :
    Calls Tryd.prog 34 #[.int .i64 n] w fun e w' => e = .returned (.int .i64 ((n + 7) / 8)) ∧ w' = w := by
  by_cases h : n % 8 = 0
  · have hb : (n % 8 == 0) = true := by simp [h]
    go_enter Tryd.func34, Tryd.ntmps34
    go_wp2
    go_ret
    exact ⟨ret_int (by omega), rfl⟩
  · have hb : (n % 8 == 0) = false := by simp [h]
    go_enter Tryd.func34, Tryd.ntmps34
    go_wp2
    go_ret
    exact ⟨ret_int (by omega), rfl⟩

theorem isWidth_yes (n : Int) (w : World) (h0 : 0 ≤ n) (h1 : n ≤ 64) : Calls Tryd.prog 36 #[.int .i64 n] w fun e w' => e = .returned (.bool true) ∧ w' = w := by
  go_enter Tryd.func36, Tryd.ntmps36
  go_wp2
  go_ret
  exact ⟨rfl, rfl⟩
theorem isWidth_no (n : Int) (w : World) (h : n < 0 ∨ 64 < n) : Calls Tryd.prog 36 #[.int .i64 n] w fun e w' => e = .returned (.bool false) ∧ w' = w := by
  rcases h with h | h
  · have hd : decide (0 ≤ n) = false := by simp; omega
    go_enter Tryd.func36, Tryd.ntmps36
    go_wp2
    go_ret
    exact ⟨rfl, rfl⟩
  · have hd : decide (n ≤ 64) = false := by simp; omega
    go_enter Tryd.func36, Tryd.ntmps36
    go_wp2
    go_ret
    exact ⟨rfl, rfl⟩
/-- v is below 2^n. -/
def fitsB (v n : Int) : Bool := decide (v < 2 ^ n.toNat)
theorem div_pow_zero (v : Int) (k : Nat) (h0 : 0 ≤ v) : (v / 2 ^ k = 0) ↔ v < 2 ^ k := by
  have hp : (0 : Int) < 2 ^ k := Int.pow_pos (by decide)
  constructor
  · intro h
    have := Int.lt_ediv_add_one_mul_self v hp
    rw [h] at this; simpa using this
  · intro h; exact Int.ediv_eq_zero_of_lt h0 h
theorem fits_any (v n : Int) (w : World) (h0 : 0 ≤ v) (h1 : v ≤ 18446744073709551615) (n0 : 0 ≤ n) (n1 : n ≤ 64) : Calls Tryd.prog 48 #[.int .u64 v, .int .i64 n] w fun e w' => e = .returned (.bool (fitsB v n)) ∧ w' = w := by
  by_cases h : n = 64
  · subst h
    have e : fitsB v 64 = true := by unfold fitsB; rw [decide_eq_true_eq]; show v < 2 ^ 64; omega
    rw [e]
    go_enter Tryd.func48, Tryd.ntmps48
    go_wp2
    go_ret
    exact ⟨rfl, rfl⟩
  · obtain ⟨k, rfl⟩ := Int.eq_ofNat_of_zero_le n0
    have hd : decide ((64 : Int) ≤ (k : Int)) = false := by simp; omega
    have hk : (k : Int) < 64 := by omega
    go_enter Tryd.func48, Tryd.ntmps48
    go_wp2
    go_ret
    refine ⟨?_, rfl⟩
    have e : (v / 2 ^ k == 0) = fitsB v k := by
      unfold fitsB
      rw [Bool.eq_iff_iff, beq_iff_eq, decide_eq_true_eq]
      exact div_pow_zero v k h0
    rw [← e]; rfl
theorem Below.drewN {B : Nat} {a w : World} (h : Below B a w) (n : Nat) : Below B a (w.drewN n) := ⟨h.os, h.tape, h.output, h.size, h.block⟩
theorem check_neg (v : Value) (l : List Int) (n : Int) (w : World) (hr : RowB w v l) (n0 : -9223372036854775808 ≤ n) (h : n < 0) :
    Calls Tryd.prog 20 #[.agg #[v, .int .i64 n]] w fun e w' => e = .returned (.int .i64 4) ∧ Below w.heap.size w w' := by
  obtain ⟨a, cap, rfl, ⟨hlc, hmax, hnn⟩, hcase⟩ := hr
  go_enter Tryd.func20, Tryd.ntmps20
  go_wp2
  go_quiet (fail)
  go_wp2
  go_ret
  exact ⟨rfl, Below.drewN ((Below.refl _ _).alloc (Nat.le_refl _) _) _⟩
theorem check_len (v : Value) (l : List Int) (n : Int) (w : World) (hr : RowB w v l) (h : 0 ≤ n) (n1 : n ≤ 9223372036854775807) (hl : ¬ (l.length : Int) = (n + 7) / 8) :
    Calls Tryd.prog 20 #[.agg #[v, .int .i64 n]] w fun e w' => e = .returned (.int .i64 4) ∧ Below w.heap.size w w' := by
  obtain ⟨a, cap, rfl, ⟨hlc, hmax, hnn⟩, hcase⟩ := hr
  have hne : ((l.length : Int) != (n + 7) / 8) = true := by rw [bne_iff_ne]; exact hl
  have hd : decide (n < 0) = false := by simp; omega
  clear hl
  go_enter Tryd.func20, Tryd.ntmps20
  go_wp2
  go_quiet ((go_at_call 34; exact Calls.quiet_of_same (bytesFor_any _ _ (by omega) (by omega))))
  go_wp2
  go_ret
  exact ⟨rfl, Below.drewN ((Below.refl _ _).alloc (Nat.le_refl _) _) _⟩
/-- No bits in the last byte are free. -/
theorem check_full (v : Value) (l : List Int) (n : Int) (w : World) (hr : RowB w v l) (h : 0 ≤ n) (n1 : n ≤ 9223372036854775807) (hl : (l.length : Int) = (n + 7) / 8) (hu : n % 8 = 0) :
    Calls Tryd.prog 20 #[.agg #[v, .int .i64 n]] w fun e w' => e = .returned (.int .i64 0) ∧ Below w.heap.size w w' := by
  obtain ⟨a, cap, rfl, ⟨hlc, hmax, hnn⟩, hcase⟩ := hr
  have hne : ((l.length : Int) != (n + 7) / 8) = false := by rw [bne_eq_false_iff_eq]; exact hl
  have hd : decide (n < 0) = false := by simp; omega
  have hd2 : decide (0 < n % 8) = false := by simp; omega
  clear hl
  go_enter Tryd.func20, Tryd.ntmps20
  go_wp2
  go_quiet ((go_at_call 34; exact Calls.quiet_of_same (bytesFor_any _ _ (by omega) (by omega))))
  go_wp2
  go_ret
  exact ⟨rfl, Below.drewN ((Below.refl _ _).alloc (Nat.le_refl _) _) _⟩
/- Some bits in the last byte are free. -/
theorem check_part0 (v : Value) (l : List Int) (n : Int) (w : World) (hr : RowB w v l) (hbt : Byt l) (h : 0 ≤ n) (n1 : n ≤ 9223372036854775807) (hl : (l.length : Int) = (n + 7) / 8) (hu : 0 < n % 8)
    (hq : (l.getD (l.length - 1) 0 * 2 ^ (n % 8).toNat % 256 != 0) = false) :
    Calls Tryd.prog 20 #[.agg #[v, .int .i64 n]] w fun e w' => e = .returned (.int .i64 0) ∧ Below w.heap.size w w' := by
  obtain ⟨a, cap, rfl, ⟨hlc, hmax, hnn⟩, hcase⟩ := hr
  have hne : ((l.length : Int) != (n + 7) / 8) = false := by rw [bne_eq_false_iff_eq]; exact hl
  have hd : decide (n < 0) = false := by simp; omega
  have hpos : 0 < l.length := by omega
  rcases hcase with h0 | ⟨b, off, rfl, hbs, hcell⟩
  · rw [h0] at hpos; simp at hpos
  have hc := hcell (l.length - 1) (by omega)
  have hb := hbt.at (l.length - 1)
  unfold maxLen at hmax
  generalize l.getD (l.length - 1) 0 = c at hc hb hq
  obtain ⟨hb0, hb1⟩ := hb
  have hidx0 : (0 : Int) ≤ (l.length : Int) - 1 := by omega
  have hidx1 : (l.length : Int) - 1 < (l.length : Int) := by omega
  clear hl hcell
  go_enter Tryd.func20, Tryd.ntmps20
  go_wp2
  go_quiet ((go_at_call 34; exact Calls.quiet_of_same (bytesFor_any _ _ (by omega) (by omega))))
  go_wp2
  go_ret
  exact ⟨rfl, Below.drewN ((Below.refl _ _).alloc (Nat.le_refl _) _) _⟩
theorem check_part1 (v : Value) (l : List Int) (n : Int) (w : World) (hr : RowB w v l) (hbt : Byt l) (h : 0 ≤ n) (n1 : n ≤ 9223372036854775807) (hl : (l.length : Int) = (n + 7) / 8) (hu : 0 < n % 8)
    (hq : (l.getD (l.length - 1) 0 * 2 ^ (n % 8).toNat % 256 != 0) = true) :
    Calls Tryd.prog 20 #[.agg #[v, .int .i64 n]] w fun e w' => e = .returned (.int .i64 4) ∧ Below w.heap.size w w' := by
  obtain ⟨a, cap, rfl, ⟨hlc, hmax, hnn⟩, hcase⟩ := hr
  have hne : ((l.length : Int) != (n + 7) / 8) = false := by rw [bne_eq_false_iff_eq]; exact hl
  have hd : decide (n < 0) = false := by simp; omega
  have hpos : 0 < l.length := by omega
  rcases hcase with h0 | ⟨b, off, rfl, hbs, hcell⟩
  · rw [h0] at hpos; simp at hpos
  have hc := hcell (l.length - 1) (by omega)
  have hb := hbt.at (l.length - 1)
  unfold maxLen at hmax
  generalize l.getD (l.length - 1) 0 = c at hc hb hq
  obtain ⟨hb0, hb1⟩ := hb
  have hidx0 : (0 : Int) ≤ (l.length : Int) - 1 := by omega
  have hidx1 : (l.length : Int) - 1 < (l.length : Int) := by omega
  clear hl hcell
  go_enter Tryd.func20, Tryd.ntmps20
  go_wp2
  go_quiet ((go_at_call 34; exact Calls.quiet_of_same (bytesFor_any _ _ (by omega) (by omega))))
  go_wp2
  go_ret
  exact ⟨rfl, Below.drewN ((Below.refl _ _).alloc (Nat.le_refl _) _) _⟩

theorem check_ok (v : Value) (l : List Int) (n : Int) (w : World) (hr : RowB w v l) (hbt : Byt l) (n1 : n ≤ 9223372036854775807) (h : P.OkB l n) :
    Calls Tryd.prog 20 #[.agg #[v, .int .i64 n]] w fun e w' => e = .returned (.int .i64 0) ∧ Below w.heap.size w w' := by
  obtain ⟨h0, hl, hlow⟩ := h
  by_cases hu : n % 8 = 0
  · exact check_full v l n w hr h0 n1 hl hu
  · have hc := hbt.at (l.length - 1)
    exact check_part0 v l n w hr hbt h0 n1 hl (by omega) (by rw [bne_eq_false_iff_eq]; exact (P.shl_zero _ n hc.1 hc.2 (by omega)).2 (hlow (by omega)))
theorem check_bad (v : Value) (l : List Int) (n : Int) (w : World) (hr : RowB w v l) (hbt : Byt l) (n0 : -9223372036854775808 ≤ n) (n1 : n ≤ 9223372036854775807) (h : ¬ P.OkB l n) :
    Calls Tryd.prog 20 #[.agg #[v, .int .i64 n]] w fun e w' => e = .returned (.int .i64 4) ∧ Below w.heap.size w w' := by
  by_cases h0 : n < 0
  · exact check_neg v l n w hr n0 h0
  by_cases hl : (l.length : Int) = (n + 7) / 8
  · by_cases hu : n % 8 = 0
    · exact absurd ⟨by omega, hl, fun h => by omega⟩ h
    · have hc := hbt.at (l.length - 1)
      refine check_part1 v l n w hr hbt (by omega) n1 hl (by omega) ?_
      rw [bne_iff_ne]
      intro hz
      exact h ⟨by omega, hl, fun _ => (P.shl_zero _ n hc.1 hc.2 (by omega)).1 hz⟩
  · exact check_len v l n w hr (by omega) n1 hl
end Go.Proofs.YteohlkpejdjenaaDoor
