/- Several texts in one. -/
import Derived.Test.YtfjbdgkdkbcnhaaDoorPlainAll
import Derived.Test.YtfjbdgkdkbcnhaaDoorStrPAll
import Derived.Test.YtfjbdgkdkbcnhaaDoorShapesAll
/- What the document's own TimeSigns answers. -/
namespace Go.Proofs.YtfjbdgkdkbcnhaaDoor
open P
namespace D
open Go.RowKit
set_option linter.unusedVariables false
namespace P
theorem ofVal_mod (n : Nat) : ∀ x : Nat, ofVal (x % 2 ^ n) n = ofVal x n := by
  induction n with
  | zero => intro x; simp [ofVal]
  | succ n ih =>
    intro x
    have e1 : x % 2 ^ (n + 1) / 2 = (x / 2) % 2 ^ n := by
      rw [Nat.pow_succ, Nat.mul_comm, Nat.mod_mul_right_div_self]
    have e2 : x % 2 ^ (n + 1) % 2 = x % 2 := by
      rw [Nat.pow_succ, Nat.mul_comm]
      exact Nat.mod_mul_right_mod x 2 (2 ^ n)
    rw [ofVal_succ, ofVal_succ, e1, e2, ih]
theorem cls_is0 (c : Int) (h : c = 0) : cls c = 0 := by unfold cls; (repeat' split) <;> omega
theorem str_is0 (c : Int) (h : c = 0) : strB (chg c) = strB [false] := by subst h; rfl
theorem cls_is1 (c : Int) (h : c ≠ 0 ∧ -64 ≤ c ∧ c ≤ 63) : cls c = 1 := by unfold cls; (repeat' split) <;> omega
theorem str_is1 (c : Int) (h : c ≠ 0 ∧ -64 ≤ c ∧ c ≤ 63) : strB (chg c) = strB [true, false] ++ strB (ofVal (u64 c) 7) := by
  unfold chg chgK
  rw [cls_is1 c h, strB_app]
  show strB (_ ++ ofVal (u64 c % 2 ^ 7) 7) = _
  rw [ofVal_mod]
  rfl
theorem cls_is2 (c : Int) (h : ¬ (-64 ≤ c ∧ c ≤ 63) ∧ -256 ≤ c ∧ c ≤ 255) : cls c = 2 := by unfold cls; (repeat' split) <;> omega
theorem str_is2 (c : Int) (h : ¬ (-64 ≤ c ∧ c ≤ 63) ∧ -256 ≤ c ∧ c ≤ 255) : strB (chg c) = strB [true, true, false] ++ strB (ofVal (u64 c) 9) := by
  unfold chg chgK
  rw [cls_is2 c h, strB_app]
  show strB (_ ++ ofVal (u64 c % 2 ^ 9) 9) = _
  rw [ofVal_mod]
  rfl
theorem cls_is3 (c : Int) (h : ¬ (-256 ≤ c ∧ c ≤ 255) ∧ -2048 ≤ c ∧ c ≤ 2047) : cls c = 3 := by unfold cls; (repeat' split) <;> omega
theorem str_is3 (c : Int) (h : ¬ (-256 ≤ c ∧ c ≤ 255) ∧ -2048 ≤ c ∧ c ≤ 2047) : strB (chg c) = strB [true, true, true, false] ++ strB (ofVal (u64 c) 12) := by
  unfold chg chgK
  rw [cls_is3 c h, strB_app]
  show strB (_ ++ ofVal (u64 c % 2 ^ 12) 12) = _
  rw [ofVal_mod]
  rfl
theorem cls_is4 (c : Int) (h : ¬ (-2048 ≤ c ∧ c ≤ 2047)) : cls c = 4 := by unfold cls; (repeat' split) <;> omega
theorem str_is4 (c : Int) (h : ¬ (-2048 ≤ c ∧ c ≤ 2047)) : strB (chg c) = strB [true, true, true, true] ++ strB (ofVal (u64 c) 64) := by
  unfold chg chgK
  rw [cls_is4 c h, strB_app]
  show strB (_ ++ ofVal (u64 c % 2 ^ 64) 64) = _
  rw [ofVal_mod]
  rfl
theorem lit0 : (ByteArray.mk #[48]) = strB [false] := rfl
theorem lit1 : (ByteArray.mk #[49, 48]) = strB [true, false] := rfl
theorem lit2 : (ByteArray.mk #[49, 49, 48]) = strB [true, true, false] := rfl
theorem lit3 : (ByteArray.mk #[49, 49, 49, 48]) = strB [true, true, true, false] := rfl
theorem lit4 : (ByteArray.mk #[49, 49, 49, 49]) = strB [true, true, true, true] := rfl
end P

set_option maxRecDepth 100000 in
set_option maxHeartbeats 4000000 in
theorem timeSigns_any (v : Value) (l : List Int) (w : World) (hr : RowK .i64 w v l) (hi : P.I64 l) (hn : l.length ≤ 1000) :
    Calls Tryd.prog 22 #[v] w fun e w' => e = .returned (.string (P.strB (P.packT l))) ∧ Below w.heap.size w w' := by
  obtain ⟨a, cap, rfl, ⟨hlc, hmax, hnn⟩, hcase⟩ := hr
  unfold maxLen at hmax
  have H16 := hide (fun w => signs_any l.length 16 w (by decide) (by omega))
  rw [← P.front_zero l l.length] at H16
  have HF : Hid (P.packT l = P.front l l.length l.length) := rfl
  generalize P.packT l = res at HF ⊢
  go_enter Tryd.func22, Tryd.ntmps22
  go_wp2_with (go_at_call 44; go_must (refine (H16.out _).mono ?_); rintro e w' ⟨rfl, rfl⟩)
  go_loopw [3, 14] (fun s i wr => ∃ j : Nat, j ≤ l.length ∧ i = .int .i64 j ∧ s = .string (P.strB (P.front l l.length j)) ∧ ∃ q, wr = w'.drewN q) (fun _ i _ => l.length - (intOf i).toNat)
  case atStart => exact ⟨0, by omega, rfl, rfl, 0, rfl⟩
  case round =>
    obtain ⟨j, hj, rfl, rfl, q, rfl⟩ := hrel
    have hsz := P.front_le l l.length j
    rw [← P.strB_size] at hsz
    have hsz2 : (P.strB (P.front l l.length j)).size ≤ 80000 := by omega
    clear hsz
    by_cases hlt : j < l.length
    · rcases hcase with h0 | ⟨b, off, rfl, hbs, hcell⟩
      · rw [h0] at hlt; simp at hlt
      have hc := hcell j hlt
      have j0 : (0 : Int) ≤ (j : Int) := by omega
      have j1 : (j : Int) < (l.length : Int) := by omega
      by_cases hz : j = 0
      · subst hz
        rw [Nat.add_zero] at hc
        have HY : Hid (P.strB (P.front l l.length (0 + 1)) = P.strB (P.front l l.length 0) ++ P.strB (P.ofVal (P.u64 (l.getD 0 0)) 64)) := by
          show _ = _; rw [P.front_succ, P.strB_app]; rfl
        have hu := P.u64_lt (l.getD 0 0)
        have HS : Hid (∀ w : World, Calls Tryd.prog 44 #[.int .u64 (IntKind.u64.wrap (l.getD 0 0)), .int .i64 64] w fun e w' => e = .returned (.string (P.strB (P.ofVal (P.u64 (l.getD 0 0)) 64))) ∧ w' = w) := by
          intro w
          have h := signs_any (P.u64 (l.getD 0 0)) 64 w (by decide) (by omega)
          rw [u64_wrap] at h
          exact h
        have hs3 : (P.strB (P.ofVal (P.u64 (l.getD 0 0)) 64)).size ≤ 64 := by rw [P.strB_size, P.ofVal_len]; exact Nat.le_refl _
        generalize P.strB (P.ofVal (P.u64 (l.getD 0 0)) 64) = s3 at HY HS hs3
        generalize l.getD 0 0 = t at *
        generalize P.strB (P.front l l.length 0) = s2 at *
        go_wp2_with (go_at_call 44; go_must (refine (HS.out _).mono ?_); rintro e w2 ⟨rfl, rfl⟩)
        go_roundw
        case rel => exact ⟨0 + 1, by omega, by go_num, by rw [HY.out], q, rfl⟩
        case measure => simp [intOf]; omega
      · have hjz : ((j : Int) == 0) = false := by simp; omega
        have hp1 := hcell (j - 1) (by omega)
        have hu := P.u64_lt (P.cg l j)
        have HC : Hid (P.cg l j = wrap64 (wrap64 (l.getD j 0 - l.getD (j - 1) 0) - P.stp l j)) := rfl
        have HY : Hid (P.strB (P.front l l.length (j + 1)) = P.strB (P.front l l.length j) ++ P.strB (P.chg (P.cg l j))) := by
          show _ = _
          rw [P.front_succ, P.strB_app]
          unfold P.tb
          rw [if_neg hz]
        have HS : Hid (∀ (m : Nat) (w : World), m ≤ 64 → Calls Tryd.prog 44 #[.int .u64 (IntKind.u64.wrap (P.cg l j)), .int .i64 m] w fun e w' => e = .returned (.string (P.strB (P.ofVal (P.u64 (P.cg l j)) m))) ∧ w' = w) := by
          intro m w hm
          have h := signs_any (P.u64 (P.cg l j)) m w hm (by omega)
          rw [u64_wrap] at h
          exact h
        have hs3 : ∀ m, (P.strB (P.ofVal (P.u64 (P.cg l j)) m)).size ≤ m := fun m => by rw [P.strB_size, P.ofVal_len]; exact Nat.le_refl _
        have i0 : (0 : Int) ≤ (j : Int) - 1 := by omega
        have i1 : (j : Int) - 1 < (l.length : Int) := by omega
        have e1 : ((j : Int) - 1).toNat = j - 1 := by omega
        generalize hs2 : P.strB (P.front l l.length j) = s2 at *
        clear hs2
        by_cases hj1 : 1 < j
        · have hjj : decide (1 < (j : Int)) = true := by simp; omega
          have hs7 := hs3 7
          have hs9 := hs3 9
          have hs12 := hs3 12
          have hs64 := hs3 64
          clear hs3
          have HZ : Hid (∀ (m : Nat) (w : World), m ≤ 64 → 0 ≤ P.cg l j → Calls Tryd.prog 44 #[.int .u64 (P.cg l j), .int .i64 m] w fun e w' => e = .returned (.string (P.strB (P.ofVal (P.u64 (P.cg l j)) m))) ∧ w' = w) := by
            intro m w hm h0
            have h := HS.out m w hm
            have hw := P.wrap64_hi (wrap64 (l.getD j 0 - l.getD (j - 1) 0) - P.stp l j)
            have e : IntKind.u64.wrap (P.cg l j) = P.cg l j := by rw [IntKind.wrap_u64]; rw [← HC.out] at hw; omega
            rw [e] at h
            exact h
          have HS7 : Hid (∀ w : World, Calls Tryd.prog 44 #[.int .u64 (IntKind.u64.wrap (P.cg l j)), .int .i64 7] w fun e w' => e = .returned (.string (P.strB (P.ofVal (P.u64 (P.cg l j)) 7))) ∧ w' = w) := fun w => HS.out 7 w (by decide)
          have HZ7 : Hid (0 ≤ P.cg l j → ∀ w : World, Calls Tryd.prog 44 #[.int .u64 (P.cg l j), .int .i64 7] w fun e w' => e = .returned (.string (P.strB (P.ofVal (P.u64 (P.cg l j)) 7))) ∧ w' = w) := fun h w => HZ.out 7 w (by decide) h
          have HS9 : Hid (∀ w : World, Calls Tryd.prog 44 #[.int .u64 (IntKind.u64.wrap (P.cg l j)), .int .i64 9] w fun e w' => e = .returned (.string (P.strB (P.ofVal (P.u64 (P.cg l j)) 9))) ∧ w' = w) := fun w => HS.out 9 w (by decide)
          have HZ9 : Hid (0 ≤ P.cg l j → ∀ w : World, Calls Tryd.prog 44 #[.int .u64 (P.cg l j), .int .i64 9] w fun e w' => e = .returned (.string (P.strB (P.ofVal (P.u64 (P.cg l j)) 9))) ∧ w' = w) := fun h w => HZ.out 9 w (by decide) h
          have HS12 : Hid (∀ w : World, Calls Tryd.prog 44 #[.int .u64 (IntKind.u64.wrap (P.cg l j)), .int .i64 12] w fun e w' => e = .returned (.string (P.strB (P.ofVal (P.u64 (P.cg l j)) 12))) ∧ w' = w) := fun w => HS.out 12 w (by decide)
          have HZ12 : Hid (0 ≤ P.cg l j → ∀ w : World, Calls Tryd.prog 44 #[.int .u64 (P.cg l j), .int .i64 12] w fun e w' => e = .returned (.string (P.strB (P.ofVal (P.u64 (P.cg l j)) 12))) ∧ w' = w) := fun h w => HZ.out 12 w (by decide) h
          have HS64 : Hid (∀ w : World, Calls Tryd.prog 44 #[.int .u64 (IntKind.u64.wrap (P.cg l j)), .int .i64 64] w fun e w' => e = .returned (.string (P.strB (P.ofVal (P.u64 (P.cg l j)) 64))) ∧ w' = w) := fun w => HS.out 64 w (by decide)
          have HZ64 : Hid (0 ≤ P.cg l j → ∀ w : World, Calls Tryd.prog 44 #[.int .u64 (P.cg l j), .int .i64 64] w fun e w' => e = .returned (.string (P.strB (P.ofVal (P.u64 (P.cg l j)) 64))) ∧ w' = w) := fun h w => HZ.out 64 w (by decide) h
          clear HS HZ
          have HT : P.stp l j = wrap64 (l.getD (j - 1) 0 - l.getD (j - 2) 0) := by unfold P.stp; rw [if_neg (by omega)]
          have hp2 := hcell (j - 2) (by omega)
          have i2 : (0 : Int) ≤ (j : Int) - 2 := by omega
          have i3 : (j : Int) - 2 < (l.length : Int) := by omega
          have e2 : ((j : Int) - 2).toNat = j - 2 := by omega
          have hce := HC.out
          rw [HT] at hce
          rw [hce] at HY HS7 HZ7 HS9 HZ9 HS12 HZ12 HS64 HZ64 hs7 hs9 hs12 hs64
          clear HT hce HC hu
          generalize l.getD j 0 = t at *
          generalize l.getD (j - 1) 0 = t1 at *
          generalize l.getD (j - 2) 0 = t2 at *
          clear hcell hz
          go_wp2_with fail
          go_quiet (fail)
          go_wp2_with (go_at_call 44; (first
            | (with_reducible refine (HS7.out _).mono ?_)
            | (with_reducible refine (HZ7.out (by omega) _).mono ?_)
            | (with_reducible refine (HS9.out _).mono ?_)
            | (with_reducible refine (HZ9.out (by omega) _).mono ?_)
            | (with_reducible refine (HS12.out _).mono ?_)
            | (with_reducible refine (HZ12.out (by omega) _).mono ?_)
            | (with_reducible refine (HS64.out _).mono ?_)
            | (with_reducible refine (HZ64.out (by omega) _).mono ?_)); rintro e w2 ⟨rfl, rfl⟩)
          all_goals
            go_roundw
            case rel =>
              refine ⟨j + 1, by omega, by go_num, ?_, q + nq, rfl⟩
              rw [HY.out]
              first
                | (rw [P.str_is0 _ (by first | omega | (have := ‹(_ == (0 : Int)) = true›; rw [beq_iff_eq] at this; exact this)), ← P.lit0])
                | (rw [P.str_is1 _ (by have := ‹(_ == (0 : Int)) = false›; rw [beq_eq_false_iff_ne] at this; omega), ← P.lit1])
                | (rw [P.str_is2 _ (by omega), ← P.lit2])
                | (rw [P.str_is3 _ (by omega), ← P.lit3])
                | (rw [P.str_is4 _ (by omega), ← P.lit4])
            case measure => simp [intOf]; omega
        · have hjj : decide (1 < (j : Int)) = false := by simp; omega
          have hs7 := hs3 7
          have hs9 := hs3 9
          have hs12 := hs3 12
          have hs64 := hs3 64
          clear hs3
          have HZ : Hid (∀ (m : Nat) (w : World), m ≤ 64 → 0 ≤ P.cg l j → Calls Tryd.prog 44 #[.int .u64 (P.cg l j), .int .i64 m] w fun e w' => e = .returned (.string (P.strB (P.ofVal (P.u64 (P.cg l j)) m))) ∧ w' = w) := by
            intro m w hm h0
            have h := HS.out m w hm
            have hw := P.wrap64_hi (wrap64 (l.getD j 0 - l.getD (j - 1) 0) - P.stp l j)
            have e : IntKind.u64.wrap (P.cg l j) = P.cg l j := by rw [IntKind.wrap_u64]; rw [← HC.out] at hw; omega
            rw [e] at h
            exact h
          have HS7 : Hid (∀ w : World, Calls Tryd.prog 44 #[.int .u64 (IntKind.u64.wrap (P.cg l j)), .int .i64 7] w fun e w' => e = .returned (.string (P.strB (P.ofVal (P.u64 (P.cg l j)) 7))) ∧ w' = w) := fun w => HS.out 7 w (by decide)
          have HZ7 : Hid (0 ≤ P.cg l j → ∀ w : World, Calls Tryd.prog 44 #[.int .u64 (P.cg l j), .int .i64 7] w fun e w' => e = .returned (.string (P.strB (P.ofVal (P.u64 (P.cg l j)) 7))) ∧ w' = w) := fun h w => HZ.out 7 w (by decide) h
          have HS9 : Hid (∀ w : World, Calls Tryd.prog 44 #[.int .u64 (IntKind.u64.wrap (P.cg l j)), .int .i64 9] w fun e w' => e = .returned (.string (P.strB (P.ofVal (P.u64 (P.cg l j)) 9))) ∧ w' = w) := fun w => HS.out 9 w (by decide)
          have HZ9 : Hid (0 ≤ P.cg l j → ∀ w : World, Calls Tryd.prog 44 #[.int .u64 (P.cg l j), .int .i64 9] w fun e w' => e = .returned (.string (P.strB (P.ofVal (P.u64 (P.cg l j)) 9))) ∧ w' = w) := fun h w => HZ.out 9 w (by decide) h
          have HS12 : Hid (∀ w : World, Calls Tryd.prog 44 #[.int .u64 (IntKind.u64.wrap (P.cg l j)), .int .i64 12] w fun e w' => e = .returned (.string (P.strB (P.ofVal (P.u64 (P.cg l j)) 12))) ∧ w' = w) := fun w => HS.out 12 w (by decide)
          have HZ12 : Hid (0 ≤ P.cg l j → ∀ w : World, Calls Tryd.prog 44 #[.int .u64 (P.cg l j), .int .i64 12] w fun e w' => e = .returned (.string (P.strB (P.ofVal (P.u64 (P.cg l j)) 12))) ∧ w' = w) := fun h w => HZ.out 12 w (by decide) h
          have HS64 : Hid (∀ w : World, Calls Tryd.prog 44 #[.int .u64 (IntKind.u64.wrap (P.cg l j)), .int .i64 64] w fun e w' => e = .returned (.string (P.strB (P.ofVal (P.u64 (P.cg l j)) 64))) ∧ w' = w) := fun w => HS.out 64 w (by decide)
          have HZ64 : Hid (0 ≤ P.cg l j → ∀ w : World, Calls Tryd.prog 44 #[.int .u64 (P.cg l j), .int .i64 64] w fun e w' => e = .returned (.string (P.strB (P.ofVal (P.u64 (P.cg l j)) 64))) ∧ w' = w) := fun h w => HZ.out 64 w (by decide) h
          clear HS HZ
          have HT : P.stp l j = 0 := by unfold P.stp; rw [if_pos (by omega)]
          have hce := HC.out
          rw [HT, Int.sub_zero] at hce
          rw [hce] at HY HS7 HZ7 HS9 HZ9 HS12 HZ12 HS64 HZ64 hs7 hs9 hs12 hs64
          clear HT hce HC hu
          generalize l.getD j 0 = t at *
          generalize l.getD (j - 1) 0 = t1 at *
          clear hcell hz
          go_wp2_with (go_at_call 44; (first
            | (with_reducible refine (HS7.out _).mono ?_)
            | (with_reducible refine (HZ7.out (by omega) _).mono ?_)
            | (with_reducible refine (HS9.out _).mono ?_)
            | (with_reducible refine (HZ9.out (by omega) _).mono ?_)
            | (with_reducible refine (HS12.out _).mono ?_)
            | (with_reducible refine (HZ12.out (by omega) _).mono ?_)
            | (with_reducible refine (HS64.out _).mono ?_)
            | (with_reducible refine (HZ64.out (by omega) _).mono ?_)); rintro e w2 ⟨rfl, rfl⟩)
          all_goals
            go_roundw
            case rel =>
              refine ⟨j + 1, by omega, by go_num, ?_, q, rfl⟩
              rw [HY.out]
              first
                | (rw [P.str_is0 _ (by first | omega | (have := ‹(_ == (0 : Int)) = true›; rw [beq_iff_eq] at this; exact this)), ← P.lit0])
                | (rw [P.str_is1 _ (by have := ‹(_ == (0 : Int)) = false›; rw [beq_eq_false_iff_ne] at this; omega), ← P.lit1])
                | (rw [P.str_is2 _ (by omega), ← P.lit2])
                | (rw [P.str_is3 _ (by omega), ← P.lit3])
                | (rw [P.str_is4 _ (by omega), ← P.lit4])
            case measure => simp [intOf]; omega
    · obtain rfl : j = l.length := by omega
      have hd : decide ((l.length : Int) < (l.length : Int)) = false := by simp
      go_wp2
      go_ret
      rw [HF.out]
      exact ⟨rfl, Below.drewN (Below.refl _ _) _⟩
end D
end Go.Proofs.YtfjbdgkdkbcnhaaDoor
