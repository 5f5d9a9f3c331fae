/- Several texts in one. -/
import Derived.Test.YtfjbdgkdkbcnhaaDoorPlainAll
import Derived.Test.YtfjbdgkdkbcnhaaDoorStrPAll
import Derived.Test.YtfjbdgkdkbcnhaaDoorXpackAll
/- What the document's own run, backward and MeasureSigns answer. -/
namespace Go.Proofs.YtfjbdgkdkbcnhaaDoor
open P
namespace X
open Go.RowKit
set_option linter.unusedVariables false
set_option linter.unusedSimpArgs false
namespace P
/-- How many noughts stand ahead. -/
def runL : List Bool → Nat
  | false :: r => runL r + 1
  | _ => 0
theorem runL_le : ∀ bs : List Bool, runL bs ≤ bs.length
  | [] => Nat.le_refl _
  | false :: r => by have := runL_le r; simp [runL]; omega
  | true :: r => by simp [runL]
theorem runL_ge : ∀ (bs : List Bool) (a : Nat), a ≤ bs.length → (a ≤ runL bs ↔ val bs < 2 ^ (bs.length - a))
  | bs, 0, _ => by simp; exact val_lt bs
  | [], a + 1, h => by simp at h
  | false :: r, a + 1, h => by
    have ih := runL_ge r a (by simpa using h)
    rw [val_cons]
    simp only [runL, List.length_cons, Nat.add_sub_add_right, Bool.toNat_false, Nat.zero_mul, Nat.zero_add]
    omega
  | true :: r, a + 1, h => by
    rw [val_cons]
    simp only [runL, List.length_cons, Nat.add_sub_add_right, Bool.toNat_true, Nat.one_mul]
    have : (2 : Nat) ^ (r.length - a) ≤ 2 ^ r.length := Nat.pow_le_pow_right (by decide) (by omega)
    omega
theorem runR_ge (bs : List Bool) : ∀ (b : Nat), b ≤ bs.length → (b ≤ runL bs.reverse ↔ val bs % 2 ^ b = 0) := by
  generalize hn : bs.length = n
  induction n generalizing bs with
  | zero => intro b hb; obtain rfl : b = 0 := by omega
            simp [Nat.mod_one]
  | succ n ih =>
    have hne : bs ≠ [] := by intro e; rw [e] at hn; cases hn
    have e := List.dropLast_concat_getLast hne
    have hl : bs.dropLast.length = n := by rw [List.length_dropLast]; omega
    generalize bs.getLast hne = x at e
    generalize bs.dropLast = r at e hl
    subst e
    intro b hb
    rw [List.reverse_append, val_snoc]
    cases b with
    | zero => simp [Nat.mod_one]
    | succ b =>
      have h1 := ih r hl b (by omega)
      cases x with
      | false =>
        show b + 1 ≤ runL (false :: r.reverse) ↔ _
        simp only [runL, Bool.toNat_false, Nat.add_zero]
        rw [Nat.pow_succ, Nat.mul_comm (2 ^ b) 2, Nat.mul_mod_mul_left]
        omega
      | true =>
        show b + 1 ≤ runL (true :: r.reverse) ↔ _
        simp only [runL, Bool.toNat_true]
        constructor
        · intro h; omega
        · intro h
          rw [Nat.pow_succ, Nat.mul_comm (2 ^ b) 2] at h
          have := Nat.mod_mul_right_mod (2 * val r + 1) 2 (2 ^ b)
          omega
theorem run_lz (t : Nat) (ht : t < 18446744073709551616) : runL (ofVal t 64) = lz t := by
  have hv : val (ofVal t 64) = t := val_ofVal t 64 (by simpa using ht)
  have hl := ofVal_len t 64
  have h1 := runL_le (ofVal t 64)
  have h2 : lz t ≤ 64 := by unfold lz; omega
  rw [hl] at h1
  apply Nat.le_antisymm
  · refine (lz_ge t _ ht h1).2 ?_
    have := (runL_ge (ofVal t 64) (runL (ofVal t 64)) (by omega)).1 (Nat.le_refl _)
    rwa [hv, hl] at this
  · refine (runL_ge (ofVal t 64) _ (by omega)).2 ?_
    rw [hv, hl]
    exact (lz_ge t _ ht h2).1 (Nat.le_refl _)
theorem run_tz (t : Nat) (h0 : t ≠ 0) (ht : t < 18446744073709551616) : runL (ofVal t 64).reverse = tz t := by
  have hv : val (ofVal t 64) = t := val_ofVal t 64 (by simpa using ht)
  have hl := ofVal_len t 64
  have h1 := runL_le (ofVal t 64).reverse
  have h2 := lz_tz t h0 ht
  rw [List.length_reverse, hl] at h1
  apply Nat.le_antisymm
  · refine (tz_ge t _ h0 ht).2 ?_
    have := (runR_ge (ofVal t 64) (runL (ofVal t 64).reverse) (by omega)).1 (Nat.le_refl _)
    rwa [hv] at this
  · refine (runR_ge (ofVal t 64) _ (by omega)).2 ?_
    rw [hv]
    exact (tz_ge t _ h0 ht).1 (Nat.le_refl _)
theorem ofVal_cut (t n a b : Nat) (h : a + b ≤ n) : ((ofVal t n).drop a).take (n - b - a) = ofVal (t / 2 ^ b) (n - a - b) := by
  apply List.ext_getElem?
  intro i
  by_cases hi : i < n - a - b
  · rw [List.getElem?_take, if_pos (by omega), List.getElem?_drop, ofVal_at _ _ _ (by omega), ofVal_at _ _ _ hi, Nat.div_div_eq_div_mul, ← Nat.pow_add]
    have e : n - 1 - (a + i) = b + (n - a - b - 1 - i) := by omega
    rw [e]
  · rw [List.getElem?_eq_none (by simp [ofVal_len]; omega), List.getElem?_eq_none (by rw [ofVal_len]; omega)]
theorem lit0 : (ByteArray.mk #[48]) = strB (ofVal 0 1) := rfl
theorem lit2 : (ByteArray.mk #[49, 48]) = strB (ofVal 2 2) := rfl
theorem lit3 : (ByteArray.mk #[49, 49]) = strB (ofVal 3 2) := rfl
/-- How the document's own window stands to ours. -/
def Rw (le ta : Int) (p : Nat × Nat) : Prop := p.1 = 64 ∧ p.2 = 64 ∧ le = -1 ∧ ta = -1 ∨ p.1 + p.2 ≤ 63 ∧ le = p.1 ∧ ta = p.2
theorem rev_take (bs : List Bool) (k : Nat) (h : k < bs.length) : (bs.take (k + 1)).reverse = (bs.drop k).take 1 ++ (bs.take k).reverse := by
  rw [List.take_succ_eq_append_getElem h, List.reverse_append, List.drop_eq_getElem_cons h]
  rfl
theorem runL_bit (bs : List Bool) (k : Nat) (hk : k ≤ runL bs) (hl : k < bs.length) : (bit bs k = 0 → k + 1 ≤ runL bs) ∧ (bit bs k ≠ 0 → k = runL bs) := by
  induction bs generalizing k with
  | nil => simp at hl
  | cons x r ih =>
    cases k with
    | zero =>
      cases x
      · simp [bit, runL]
      · simp [bit, runL]
    | succ k =>
      cases x
      · have := ih k (by simpa [runL] using hk) (by simpa using hl)
        simpa [bit, runL] using this
      · simp [runL] at hk
end P
theorem run_any (bs : List Bool) (w : World) (hl : bs.length ≤ 1000) :
    Calls Tryd.prog 45 #[.string (P.strB bs)] w fun e w' => e = .returned (.int .i64 (P.runL bs : Nat)) ∧ w' = w := by
  have hsz := P.strB_size bs
  have hsz1 := Nat.le_of_eq hsz
  have hsz2 := Nat.le_of_eq hsz.symm
  have HA := hide (P.strB_at bs)
  have hle := P.runL_le bs
  have HB := hide (P.runL_bit bs)
  generalize P.strB bs = s at *
  generalize P.runL bs = R at *
  clear hsz
  go_enter Tryd.func45, Tryd.ntmps45
  go_wp2
  go_loop [3] (fun i => ∃ k : Nat, k ≤ R ∧ i = .int .i64 k) (fun i => bs.length - (intOf i).toNat)
  case atStart => exact ⟨0, by omega, rfl⟩
  case round =>
    obtain ⟨k, hk, rfl⟩ := hrel
    by_cases hlt : k < bs.length
    · have hz := HB.out k hk hlt
      have hjs : k < s.size := by omega
      have hat := HA.out k hjs
      have hbl := P.bit_le bs k
      have HZ := hide hz
      clear hz HB
      by_cases hb0 : P.bit bs k = 0
      · have hkR := HZ.out.1 hb0
        rw [hb0] at hat
        clear HZ HA hb0 hbl
        go_wp2
        go_round
        case rel => exact ⟨k + 1, hkR, by go_num⟩
        case measure => simp [intOf]; omega
      · have HkR := hide (HZ.out.2 hb0)
        have hb1 : P.bit bs k = 1 := by omega
        rw [hb1] at hat
        clear HZ HA hb0 hbl hb1
        go_wp2
        go_ret
        exact ⟨ret_int (by rw [HkR.out]), rfl⟩
    · have HkR : Hid (k = R) := by show _ = _; omega
      have hd : decide ((k : Int) < (s.size : Int)) = false := by simp; omega
      clear HA HB
      go_wp2
      go_ret
      exact ⟨ret_int (by rw [HkR.out]), rfl⟩
theorem backward_any (bs : List Bool) (w : World) (hl : bs.length ≤ 1000) :
    Calls Tryd.prog 46 #[.string (P.strB bs)] w fun e w' => e = .returned (.string (P.strB bs.reverse)) ∧ w' = w := by
  have hsz := P.strB_size bs
  have hsz1 := Nat.le_of_eq hsz
  have hsz2 := Nat.le_of_eq hsz.symm
  have HX := hide (P.strB_extract bs)
  generalize P.strB bs = s at *
  clear hsz
  go_enter Tryd.func46, Tryd.ntmps46
  go_wp2
  go_loop [3, 7] (fun t i => ∃ k : Nat, k ≤ bs.length ∧ i = .int .i64 k ∧ t = .string (P.strB (bs.take k).reverse)) (fun _ i => bs.length - (intOf i).toNat)
  case atStart => exact ⟨0, by omega, rfl, rfl⟩
  case round =>
    obtain ⟨k, hk, rfl, rfl⟩ := hrel
    by_cases hlt : k < bs.length
    · have k1 : (k : Int) < (s.size : Int) := by omega
      have k2 : (k : Int) + 1 ≤ (s.size : Int) := by omega
      have HY := hide (P.rev_take bs k hlt)
      have hx := HX.out k (k + 1)
      rw [Nat.add_sub_cancel_left] at hx
      have hs1 : (P.strB ((bs.drop k).take 1)).size ≤ 1 := by rw [P.strB_size]; simp; omega
      have hs2 : (P.strB (bs.take k).reverse).size ≤ 1000 := by rw [P.strB_size]; simp; omega
      clear HX
      go_wp2
      go_round
      case rel => exact ⟨k + 1, by omega, by go_num, by rw [HY.out, ← P.strB_app]⟩
      case measure => simp [intOf]; omega
    · obtain rfl : k = bs.length := by omega
      have hd : decide ((bs.length : Int) < (s.size : Int)) = false := by simp; omega
      rw [List.take_length]
      go_wp2
      go_ret
      exact ⟨rfl, rfl⟩
end X
end Go.Proofs.YtfjbdgkdkbcnhaaDoor
/- What the document's own MeasureSigns answers. -/
namespace Go.Proofs.YtfjbdgkdkbcnhaaDoor
open P
namespace X
open Go.RowKit
set_option linter.unusedVariables false
set_option linter.unusedSimpArgs false

set_option maxRecDepth 100000 in
set_option maxHeartbeats 4000000 in
theorem measureSigns_any (v : Value) (l : List Int) (w : World) (hr : RowK .u64 w v l) (hi : P.U64 l) (hn : l.length ≤ 1000) :
    Calls Tryd.prog 23 #[v] w fun e w' => e = .returned (.string (P.strB (P.packT l))) ∧ w' = w := by
  obtain ⟨a, cap, rfl, ⟨hlc, hmax, hnn⟩, hcase⟩ := hr
  unfold maxLen at hmax
  have H16 := hide (fun w => signs_any l.length 16 w (by decide) (by omega))
  rw [← P.front_zero l l.length] at H16
  have HF : Hid (P.packT l = P.front l l.length l.length) := rfl
  generalize P.packT l = res at HF ⊢
  go_enter Tryd.func23, Tryd.ntmps23
  go_wp2_with (go_at_call 44; go_must (refine (H16.out _).mono ?_); rintro e w' ⟨rfl, rfl⟩)
  go_loop [3, 4, 5, 17] (fun s le ta i => ∃ (j : Nat) (x y : Int), j ≤ l.length ∧ i = .int .i64 j ∧ s = .string (P.strB (P.front l l.length j)) ∧ le = .int .i64 x ∧ ta = .int .i64 y ∧ Hid (P.Rw x y (P.win l j))) (fun _ _ _ i => l.length - (intOf i).toNat)
  case atStart => exact ⟨0, -1, -1, by omega, rfl, rfl, rfl, rfl, hide (.inl ⟨rfl, rfl, rfl, rfl⟩)⟩
  case round =>
    obtain ⟨j, x, y, hj, rfl, rfl, rfl, rfl, HR⟩ := hrel
    have hsz := P.front_le l l.length j
    rw [← P.strB_size] at hsz
    have hsz2 : (P.strB (P.front l l.length j)).size ≤ 80000 := by omega
    clear hsz
    by_cases hlt : j < l.length
    · rcases hcase with h0 | ⟨b, off, rfl, hbs, hcell⟩
      · rw [h0] at hlt; simp at hlt
      have hc := hcell j hlt
      have j0 : (0 : Int) ≤ (j : Int) := by omega
      have j1 : (j : Int) < (l.length : Int) := by omega
      by_cases hz : j = 0
      · subst hz
        rw [Nat.add_zero] at hc
        have hu := hi.at 0
        have HY : Hid (P.strB (P.front l l.length (0 + 1)) = P.strB (P.front l l.length 0) ++ P.strB (P.ofVal (l.getD 0 0).toNat 64)) := by
          show _ = _; rw [P.front_succ, P.strB_app]; rfl
        have HS : Hid (∀ w : World, Calls Tryd.prog 44 #[.int .u64 (l.getD 0 0), .int .i64 64] w fun e w' => e = .returned (.string (P.strB (P.ofVal (l.getD 0 0).toNat 64))) ∧ w' = w) := by
          intro w
          have h := signs_any (l.getD 0 0).toNat 64 w (by decide) (by omega)
          rw [Int.toNat_of_nonneg hu.1] at h
          exact h
        have HR1 : Hid (P.Rw x y (P.win l (0 + 1))) := HR
        have hs3 : (P.strB (P.ofVal (l.getD 0 0).toNat 64)).size ≤ 64 := by rw [P.strB_size, P.ofVal_len]; exact Nat.le_refl _
        generalize P.strB (P.ofVal (l.getD 0 0).toNat 64) = s3 at HY HS hs3
        generalize l.getD 0 0 = t at *
        generalize P.strB (P.front l l.length 0) = s2 at *
        go_wp2_with (go_at_call 44; go_must (refine (HS.out _).mono ?_); rintro e w2 ⟨rfl, rfl⟩)
        go_round
        case rel => exact ⟨0 + 1, x, y, by omega, by go_num, by rw [HY.out], rfl, rfl, HR1⟩
        case measure => simp [intOf]; omega
      · have hjp : 0 < j := by omega
        have hjz : ((j : Int) == 0) = false := by simp; omega
        have hp1 := hcell (j - 1) (by omega)
        have i0 : (0 : Int) ≤ (j : Int) - 1 := by omega
        have i1 : (j : Int) - 1 < (l.length : Int) := by omega
        have e1 : ((j : Int) - 1).toNat = j - 1 := by omega
        have htl := P.tn_lt hi j
        have HN := hide (front_next l l.length j hjp)
        have HW := hide (win_next l j hjp)
        have HS : Hid (∀ w : World, Calls Tryd.prog 44 #[.int .u64 (bits BinOp.xor IntKind.u64 (l.getD j 0) (l.getD (j - 1) 0)), .int .i64 64] w fun e w' => e = .returned (.string (P.strB (P.ofVal (P.tn l j) 64))) ∧ w' = w) := by
          intro w
          have h := signs_any (P.tn l j) 64 w (by decide) (by omega)
          rw [← tn_bits l hi j] at h
          exact h
        generalize P.tn l j = t at htl HN HW HS
        have hof : (P.ofVal t 64).length = 64 := P.ofVal_len t 64
        have HR1 := hide (fun w => run_any (P.ofVal t 64) w (by omega))
        have HBk := hide (fun w => backward_any (P.ofVal t 64) w (by omega))
        have HR2 := hide (fun w => run_any (P.ofVal t 64).reverse w (by rw [List.length_reverse]; omega))
        rw [P.run_lz t htl] at HR1
        have HX := hide (P.strB_extract (P.ofVal t 64))
        have hsT := P.strB_size (P.ofVal t 64)
        have hsT1 : (P.strB (P.ofVal t 64)).size ≤ 64 := by omega
        have hsT2 : 64 ≤ (P.strB (P.ofVal t 64)).size := by omega
        clear hsT hof hcell
        generalize P.strB (P.ofVal t 64) = sT at *
        generalize P.strB (P.ofVal t 64).reverse = sB at HBk HR2
        generalize l.getD j 0 = u at *
        generalize l.getD (j - 1) 0 = u1 at *
        generalize hs2 : P.strB (P.front l l.length j) = s2 at *
        have HS2 := hide hs2
        clear hs2
        by_cases ht0 : t = 0
        · have hA : ((P.lz t : Nat) : Int) = 64 := by rw [ht0]; rfl
          have hA2 : (((P.lz t : Nat) : Int) == 64) = true := by rw [hA]; rfl
          have HY : Hid (P.strB (P.front l l.length (j + 1)) = s2 ++ P.strB (P.ofVal 0 1)) := by
            show _ = _
            rw [HN.out, ← P.strB_app, HS2.out]
            congr 2
            unfold P.tbits; rw [if_pos ht0]
          have HRn : Hid (P.Rw x y (P.win l (j + 1))) := by
            show P.Rw _ _ _
            rw [HW.out]
            unfold P.nw; rw [if_pos ht0]; exact HR.out
          generalize P.lz t = c at HR1 hA2
          generalize P.runL (P.ofVal t 64).reverse = d at HR2
          clear hA ht0 HN HW HX HS2
          go_wp2_with (first
            | (go_at_call 44; go_must (refine (HS.out _).mono ?_); rintro e w2 ⟨rfl, rfl⟩)
            | (go_at_call 45; with_reducible refine (HR1.out _).mono ?_; rintro e w2 ⟨rfl, rfl⟩)
            | (go_at_call 46; refine (HBk.out _).mono ?_; rintro e w2 ⟨rfl, rfl⟩)
            | (go_at_call 45; with_reducible refine (HR2.out _).mono ?_; rintro e w2 ⟨rfl, rfl⟩))
          go_round
          case rel => exact ⟨j + 1, x, y, by omega, by go_num, by rw [HY.out]; rfl, rfl, rfl, HRn⟩
          case measure => simp [intOf]; omega
        · rw [P.run_tz t ht0 htl] at HR2
          have hcd := P.lz_tz t ht0 htl
          by_cases hh : (P.win l j).1 ≤ P.lz t ∧ (P.win l j).2 ≤ P.tz t
          · have hp63 := P.win_holds (P.win_ok hi j) t ht0 htl hh.1
            have HY : Hid (P.strB (P.front l l.length (j + 1)) = s2 ++ P.strB (P.ofVal 2 2) ++ sT.extract (P.win l j).1 (64 - (P.win l j).2)) := by
              show _ = _
              rw [HN.out, ← P.strB_app, HS2.out, HX.out, P.ofVal_cut t 64 _ _ (by omega), ByteArray.append_assoc]
              congr 1
              unfold P.tbits P.body
              rw [if_neg ht0, if_pos hh, P.strB_app]
            have HRn : Hid (P.Rw x y (P.win l (j + 1))) := by
              show P.Rw _ _ _
              rw [HW.out]
              unfold P.nw; rw [if_neg ht0, if_pos hh]; exact HR.out
            have hxy : x = ((P.win l j).1 : Nat) ∧ y = ((P.win l j).2 : Nat) := by
              rcases HR.out with h | h <;> omega
            obtain ⟨rfl, rfl⟩ := hxy
            generalize (P.win l j).1 = pa at *
            generalize (P.win l j).2 = pb at *
            generalize P.lz t = c at *
            generalize P.tz t = d at *
            have hA2 : ((c : Int) == 64) = false := by rw [beq_eq_false_iff_ne]; omega
            have h1 : (pa : Int) ≤ (c : Int) := by omega
            have h2 : (pb : Int) ≤ (d : Int) := by omega
            have h3 : (0 : Int) ≤ (pa : Int) := by omega
            have k0 : (0 : Int) ≤ 64 - (pb : Int) := by omega
            have k1 : (pa : Int) ≤ 64 - (pb : Int) := by omega
            have k2 : 64 - (pb : Int) ≤ (sT.size : Int) := by omega
            have k3 : (64 - (pb : Int)).toNat = 64 - pb := by omega
            have k4 : (sT.extract pa (64 - pb)).size ≤ 64 := by simp; omega
            clear hh ht0 HN HW HX HS2 HR hi
            go_wp2_with (first
              | (go_at_call 44; with_reducible refine (HS.out _).mono ?_; rintro e w2 ⟨rfl, rfl⟩)
              | (go_at_call 45; with_reducible refine (HR1.out _).mono ?_; rintro e w2 ⟨rfl, rfl⟩)
              | (go_at_call 46; refine (HBk.out _).mono ?_; rintro e w2 ⟨rfl, rfl⟩)
              | (go_at_call 45; with_reducible refine (HR2.out _).mono ?_; rintro e w2 ⟨rfl, rfl⟩))
            go_round
            case rel => exact ⟨j + 1, pa, pb, by omega, by go_num, by rw [HY.out]; rfl, rfl, rfl, HRn⟩
            case measure => simp [intOf]; omega
          · have HY : Hid (P.strB (P.front l l.length (j + 1)) = s2 ++ (P.strB (P.ofVal 3 2) ++ P.strB (P.ofVal (P.lz t) 6) ++ P.strB (P.ofVal (63 - P.lz t - P.tz t) 6)) ++ sT.extract (P.lz t) (64 - P.tz t)) := by
              show _ = _
              rw [HN.out, ← P.strB_app, HS2.out, HX.out, P.ofVal_cut t 64 _ _ (by omega), ByteArray.append_assoc]
              congr 1
              unfold P.tbits P.body
              rw [if_neg ht0, if_neg hh, P.strB_app, P.strB_app, P.strB_app, List.append_assoc, List.append_assoc]
            have HRn : Hid (P.Rw (P.lz t) (P.tz t) (P.win l (j + 1))) := by
              show P.Rw _ _ _
              rw [HW.out]
              unfold P.nw; rw [if_neg ht0, if_neg hh]; exact .inr ⟨hcd, rfl, rfl⟩
            have HSa : Hid (∀ w : World, Calls Tryd.prog 44 #[.int .u64 (P.lz t : Nat), .int .i64 6] w fun e w' => e = .returned (.string (P.strB (P.ofVal (P.lz t) 6))) ∧ w' = w) := fun w => signs_any (P.lz t) 6 w (by decide) (by omega)
            have HSb : Hid (∀ w : World, Calls Tryd.prog 44 #[.int .u64 (63 - (P.lz t : Int) - (P.tz t : Int)), .int .i64 6] w fun e w' => e = .returned (.string (P.strB (P.ofVal (63 - P.lz t - P.tz t) 6))) ∧ w' = w) := by
              intro w
              have h := signs_any (63 - P.lz t - P.tz t) 6 w (by decide) (by omega)
              have e : ((63 - P.lz t - P.tz t : Nat) : Int) = 63 - (P.lz t : Int) - (P.tz t : Int) := by omega
              rw [e] at h
              exact h
            have hz1 : (P.strB (P.ofVal (P.lz t) 6)).size ≤ 6 := by rw [P.strB_size, P.ofVal_len]; exact Nat.le_refl _
            have hz2 : (P.strB (P.ofVal (63 - P.lz t - P.tz t) 6)).size ≤ 6 := by rw [P.strB_size, P.ofVal_len]; exact Nat.le_refl _
            have hx := HR.out
            generalize P.strB (P.ofVal (P.lz t) 6) = S1 at *
            generalize P.strB (P.ofVal (63 - P.lz t - P.tz t) 6) = S2 at *
            generalize P.win l j = p at *
            generalize P.lz t = c at *
            generalize P.tz t = d at *
            have hA2 : ((c : Int) == 64) = false := by rw [beq_eq_false_iff_ne]; omega
            have k0 : (0 : Int) ≤ 64 - (d : Int) := by omega
            have k1 : (c : Int) ≤ 64 - (d : Int) := by omega
            have k2 : 64 - (d : Int) ≤ (sT.size : Int) := by omega
            have k3 : (64 - (d : Int)).toNat = 64 - d := by omega
            have k4 : (sT.extract c (64 - d)).size ≤ 64 := by simp; omega
            clear ht0 HN HW HX HS2 HR hi
            rcases hx with ⟨_, _, rfl, rfl⟩ | ⟨hp, rfl, rfl⟩
            · clear hh
              go_wp2_with (first
                | (go_at_call 44; with_reducible refine (HS.out _).mono ?_; rintro e w2 ⟨rfl, rfl⟩)
                | (go_at_call 44; with_reducible refine (HSa.out _).mono ?_; rintro e w2 ⟨rfl, rfl⟩)
                | (go_at_call 44; with_reducible refine (HSb.out _).mono ?_; rintro e w2 ⟨rfl, rfl⟩)
                | (go_at_call 45; with_reducible refine (HR1.out _).mono ?_; rintro e w2 ⟨rfl, rfl⟩)
                | (go_at_call 46; refine (HBk.out _).mono ?_; rintro e w2 ⟨rfl, rfl⟩)
                | (go_at_call 45; with_reducible refine (HR2.out _).mono ?_; rintro e w2 ⟨rfl, rfl⟩))
              go_round
              case rel => exact ⟨j + 1, c, d, by omega, by go_num, by rw [HY.out]; rfl, rfl, rfl, HRn⟩
              case measure => simp [intOf]; omega
            · generalize p.1 = pa at *
              generalize p.2 = pb at *
              have h3 : (0 : Int) ≤ (pa : Int) := by omega
              by_cases hq : pa ≤ c
              · have h1 : (pa : Int) ≤ (c : Int) := by omega
                have h2 : (d : Int) < (pb : Int) := by omega
                clear hh hq
                go_wp2_with (first
                  | (go_at_call 44; with_reducible refine (HS.out _).mono ?_; rintro e w2 ⟨rfl, rfl⟩)
                  | (go_at_call 44; with_reducible refine (HSa.out _).mono ?_; rintro e w2 ⟨rfl, rfl⟩)
                  | (go_at_call 44; with_reducible refine (HSb.out _).mono ?_; rintro e w2 ⟨rfl, rfl⟩)
                  | (go_at_call 45; with_reducible refine (HR1.out _).mono ?_; rintro e w2 ⟨rfl, rfl⟩)
                  | (go_at_call 46; refine (HBk.out _).mono ?_; rintro e w2 ⟨rfl, rfl⟩)
                  | (go_at_call 45; with_reducible refine (HR2.out _).mono ?_; rintro e w2 ⟨rfl, rfl⟩))
                all_goals first
                  | (exfalso; omega)
                  | (go_round
                     case rel => exact ⟨j + 1, c, d, by omega, by go_num, by rw [HY.out]; rfl, rfl, rfl, HRn⟩
                     case measure => simp [intOf]; omega)
              · have h1 : (c : Int) < (pa : Int) := by omega
                clear hh hq
                go_wp2_with (first
                  | (go_at_call 44; with_reducible refine (HS.out _).mono ?_; rintro e w2 ⟨rfl, rfl⟩)
                  | (go_at_call 44; with_reducible refine (HSa.out _).mono ?_; rintro e w2 ⟨rfl, rfl⟩)
                  | (go_at_call 44; with_reducible refine (HSb.out _).mono ?_; rintro e w2 ⟨rfl, rfl⟩)
                  | (go_at_call 45; with_reducible refine (HR1.out _).mono ?_; rintro e w2 ⟨rfl, rfl⟩)
                  | (go_at_call 46; refine (HBk.out _).mono ?_; rintro e w2 ⟨rfl, rfl⟩)
                  | (go_at_call 45; with_reducible refine (HR2.out _).mono ?_; rintro e w2 ⟨rfl, rfl⟩))
                all_goals first
                  | (exfalso; omega)
                  | (go_round
                     case rel => exact ⟨j + 1, c, d, by omega, by go_num, by rw [HY.out]; rfl, rfl, rfl, HRn⟩
                     case measure => simp [intOf]; omega)
    · obtain rfl : j = l.length := by omega
      have hd : decide ((l.length : Int) < (l.length : Int)) = false := by simp
      rw [← HF.out]
      go_wp2
      go_ret
      exact ⟨rfl, rfl⟩
end X
end Go.Proofs.YtfjbdgkdkbcnhaaDoor
