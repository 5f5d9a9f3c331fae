/- What the document's own run, backward and MeasureSigns answer. -/
import Derived.Test.YteohlkpejdjenaaDoorRefBits
import Derived.Test.YteohlkpejdjenaaDoorXpack
namespace Go.Proofs.YteohlkpejdjenaaDoor
open Go.RowKit
set_option linter.unusedVariables false
set_option linter.unusedSimpArgs false
namespace P
/-- How many noughts stand ahead. -/
def runL : List Bool → Nat
  | false :: r => runL r + 1
  | _ => 0
theorem runL_le : ∀ bs : List Bool, runL bs ≤ bs.length
  | [] => Nat.le_refl _
  | false :: r => by have := runL_le r; simp [runL]; omega
  | true :: r => by simp [runL]
theorem runL_ge : ∀ (bs : List Bool) (a : Nat), a ≤ bs.length → (a ≤ runL bs ↔ val bs < 2 ^ (bs.length - a))
  | bs, 0, _ => by simp; exact val_lt bs
  | [], a + 1, h => by simp at h
  | false :: r, a + 1, h => by
    have ih := runL_ge r a (by simpa using h)
    rw [val_cons]
    simp only [runL, List.length_cons, Nat.add_sub_add_right, Bool.toNat_false, Nat.zero_mul, Nat.zero_add]
    omega
  | true :: r, a + 1, h => by
    rw [val_cons]
    simp only [runL, List.length_cons, Nat.add_sub_add_right, Bool.toNat_true, Nat.one_mul]
    have : (2 : Nat) ^ (r.length - a) ≤ 2 ^ r.length := Nat.pow_le_pow_right (by decide) (by omega)
    omega
theorem runR_ge (bs : List Bool) : ∀ (b : Nat), b ≤ bs.length → (b ≤ runL bs.reverse ↔ val bs % 2 ^ b = 0) := by
  generalize hn : bs.length = n
  induction n generalizing bs with
  | zero => intro b hb; obtain rfl : b = 0 := by omega
            simp [Nat.mod_one]
  | succ n ih =>
    have hne : bs ≠ [] := by intro e; rw [e] at hn; cases hn
    have e := List.dropLast_concat_getLast hne
    have hl : bs.dropLast.length = n := by rw [List.length_dropLast]; omega
    generalize bs.getLast hne = x at e
    generalize bs.dropLast = r at e hl
    subst e
    intro b hb
    rw [List.reverse_append, val_snoc]
    cases b with
    | zero => simp [Nat.mod_one]
    | succ b =>
      have h1 := ih r hl b (by omega)
      cases x with
      | false =>
        show b + 1 ≤ runL (false :: r.reverse) ↔ _
        simp only [runL, Bool.toNat_false, Nat.add_zero]
        rw [Nat.pow_succ, Nat.mul_comm (2 ^ b) 2, Nat.mul_mod_mul_left]
        omega
      | true =>
        show b + 1 ≤ runL (true :: r.reverse) ↔ _
        simp only [runL, Bool.toNat_true]
        constructor
        · intro h; omega
        · intro h
          rw [Nat.pow_succ, Nat.mul_comm (2 ^ b) 2] at h
          have := Nat.mod_mul_right_mod (2 * val r + 1) 2 (2 ^ b)
          omega
theorem run_lz (t : Nat) (ht : t < 18446744073709551616) : runL (ofVal t 64) = lz t := by
  have hv : val (ofVal t 64) = t := val_ofVal t 64 (by simpa using ht)
  have hl := ofVal_len t 64
  have h1 := runL_le (ofVal t 64)
  have h2 : lz t ≤ 64 := by unfold lz; omega
  rw [hl] at h1
  apply Nat.le_antisymm
  · refine (lz_ge t _ ht h1).2 ?_
    have := (runL_ge (ofVal t 64) (runL (ofVal t 64)) (by omega)).1 (Nat.le_refl _)
    rwa [hv, hl] at this
  · refine (runL_ge (ofVal t 64) _ (by omega)).2 ?_
    rw [hv, hl]
    exact (lz_ge t _ ht h2).1 (Nat.le_refl _)
theorem run_tz (t : Nat) (h0 : t ≠ 0) (ht : t < 18446744073709551616) : runL (ofVal t 64).reverse = tz t := by
  have hv : val (ofVal t 64) = t := val_ofVal t 64 (by simpa using ht)
  have hl := ofVal_len t 64
  have h1 := runL_le (ofVal t 64).reverse
  have h2 := lz_tz t h0 ht
  rw [List.length_reverse, hl] at h1
  apply Nat.le_antisymm
  · refine (tz_ge t _ h0 ht).2 ?_
    have := (runR_ge (ofVal t 64) (runL (ofVal t 64).reverse) (by omega)).1 (Nat.le_refl _)
    rwa [hv] at this
  · refine (runR_ge (ofVal t 64) _ (by omega)).2 ?_
    rw [hv]
    exact (tz_ge t _ h0 ht).1 (Nat.le_refl _)
theorem ofVal_cut (t n a b : Nat) (h : a + b ≤ n) : ((ofVal t n).drop a).take (n - b - a) = ofVal (t / 2 ^ b) (n - a - b) := by
  apply List.ext_getElem?
  intro i
  by_cases hi : i < n - a - b
  · rw [List.getElem?_take, if_pos (by omega), List.getElem?_drop, ofVal_at _ _ _ (by omega), ofVal_at _ _ _ hi, Nat.div_div_eq_div_mul, ← Nat.pow_add]
    have e : n - 1 - (a + i) = b + (n - a - b - 1 - i) := by omega
    rw [e]
  · rw [List.getElem?_eq_none (by simp [ofVal_len]; omega), List.getElem?_eq_none (by rw [ofVal_len]; omega)]
theorem lit0 : (ByteArray.mk #[48]) = strB (ofVal 0 1) := rfl
theorem lit2 : (ByteArray.mk #[49, 48]) = strB (ofVal 2 2) := rfl
theorem lit3 : (ByteArray.mk #[49, 49]) = strB (ofVal 3 2) := rfl
/-- How the document's own window stands to ours. -/
def Rw (le ta : Int) (p : Nat × Nat) : Prop := p.1 = 64 ∧ p.2 = 64 ∧ le = -1 ∧ ta = -1 ∨ p.1 + p.2 ≤ 63 ∧ le = p.1 ∧ ta = p.2
theorem rev_take (bs : List Bool) (k : Nat) (h : k < bs.length) : (bs.take (k + 1)).reverse = (bs.drop k).take 1 ++ (bs.take k).reverse := by
  rw [List.take_succ_eq_append_getElem h, List.reverse_append, List.drop_eq_getElem_cons h]
  rfl
theorem runL_bit (bs : List Bool) (k : Nat) (hk : k ≤ runL bs) (hl : k < bs.length) : (bit bs k = 0 → k + 1 ≤ runL bs) ∧ (bit bs k ≠ 0 → k = runL bs) := by
  induction bs generalizing k with
  | nil => simp at hl
  | cons x r ih =>
    cases k with
    | zero =>
      cases x
      · simp [bit, runL]
      · simp [bit, runL]
    | succ k =>
      cases x
      · have := ih k (by simpa [runL] using hk) (by simpa using hl)
        simpa [bit, runL] using this
      · simp [runL] at hk
end P
theorem run_any (bs : List Bool) (w : World) (hl : bs.length ≤ 1000) :
    Calls Tryd.prog 29 #[.string (P.strB bs)] w fun e w' => e = .returned (.int .i64 (P.runL bs : Nat)) ∧ w' = w := by
  have hsz := P.strB_size bs
  have hsz1 := Nat.le_of_eq hsz
  have hsz2 := Nat.le_of_eq hsz.symm
  have HA := hide (P.strB_at bs)
  have hle := P.runL_le bs
  have HB := hide (P.runL_bit bs)
  generalize P.strB bs = s at *
  generalize P.runL bs = R at *
  clear hsz
  go_enter Tryd.func29, Tryd.ntmps29
  go_wp2
  go_loop [3] (fun i => ∃ k : Nat, k ≤ R ∧ i = .int .i64 k) (fun i => bs.length - (intOf i).toNat)
  case atStart => exact ⟨0, by omega, rfl⟩
  case round =>
    obtain ⟨k, hk, rfl⟩ := hrel
    by_cases hlt : k < bs.length
    · have hz := HB.out k hk hlt
      have hjs : k < s.size := by omega
      have hat := HA.out k hjs
      have hbl := P.bit_le bs k
      have HZ := hide hz
      clear hz HB
      by_cases hb0 : P.bit bs k = 0
      · have hkR := HZ.out.1 hb0
        rw [hb0] at hat
        clear HZ HA hb0 hbl
        go_wp2
        go_round
        case rel => exact ⟨k + 1, hkR, by go_num⟩
        case measure => simp [intOf]; omega
      · have HkR := hide (HZ.out.2 hb0)
        have hb1 : P.bit bs k = 1 := by omega
        rw [hb1] at hat
        clear HZ HA hb0 hbl hb1
        go_wp2
        go_ret
        exact ⟨ret_int (by rw [HkR.out]), rfl⟩
    · have HkR : Hid (k = R) := by show _ = _; omega
      have hd : decide ((k : Int) < (s.size : Int)) = false := by simp; omega
      clear HA HB
      go_wp2
      go_ret
      exact ⟨ret_int (by rw [HkR.out]), rfl⟩
theorem backward_any (bs : List Bool) (w : World) (hl : bs.length ≤ 1000) :
    Calls Tryd.prog 30 #[.string (P.strB bs)] w fun e w' => e = .returned (.string (P.strB bs.reverse)) ∧ w' = w := by
  have hsz := P.strB_size bs
  have hsz1 := Nat.le_of_eq hsz
  have hsz2 := Nat.le_of_eq hsz.symm
  have HX := hide (P.strB_extract bs)
  generalize P.strB bs = s at *
  clear hsz
  go_enter Tryd.func30, Tryd.ntmps30
  go_wp2
  go_loop [3, 7] (fun t i => ∃ k : Nat, k ≤ bs.length ∧ i = .int .i64 k ∧ t = .string (P.strB (bs.take k).reverse)) (fun _ i => bs.length - (intOf i).toNat)
  case atStart => exact ⟨0, by omega, rfl, rfl⟩
  case round =>
    obtain ⟨k, hk, rfl, rfl⟩ := hrel
    by_cases hlt : k < bs.length
    · have k1 : (k : Int) < (s.size : Int) := by omega
      have k2 : (k : Int) + 1 ≤ (s.size : Int) := by omega
      have HY := hide (P.rev_take bs k hlt)
      have hx := HX.out k (k + 1)
      rw [Nat.add_sub_cancel_left] at hx
      have hs1 : (P.strB ((bs.drop k).take 1)).size ≤ 1 := by rw [P.strB_size]; simp; omega
      have hs2 : (P.strB (bs.take k).reverse).size ≤ 1000 := by rw [P.strB_size]; simp; omega
      clear HX
      go_wp2
      go_round
      case rel => exact ⟨k + 1, by omega, by go_num, by rw [HY.out, ← P.strB_app]⟩
      case measure => simp [intOf]; omega
    · obtain rfl : k = bs.length := by omega
      have hd : decide ((bs.length : Int) < (s.size : Int)) = false := by simp; omega
      rw [List.take_length]
      go_wp2
      go_ret
      exact ⟨rfl, rfl⟩
end Go.Proofs.YteohlkpejdjenaaDoor
