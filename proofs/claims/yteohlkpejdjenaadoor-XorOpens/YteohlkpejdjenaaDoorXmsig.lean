/- What the document's own MeasureSigns answers. -/
import Derived.Test.YteohlkpejdjenaaDoorXsigns
namespace Go.Proofs.YteohlkpejdjenaaDoor
open Go.RowKit
set_option linter.unusedVariables false
set_option linter.unusedSimpArgs false

set_option maxRecDepth 100000 in
set_option maxHeartbeats 4000000 in
theorem measureSigns_any (v : Value) (l : List Int) (w : World) (hr : RowK .u64 w v l) (hi : P.U64 l) (hn : l.length ≤ 1000) :
    Calls Tryd.prog 12 #[v] w fun e w' => e = .returned (.string (P.strB (P.packT l))) ∧ w' = w := by
  obtain ⟨a, cap, rfl, ⟨hlc, hmax, hnn⟩, hcase⟩ := hr
  unfold maxLen at hmax
  have H16 := hide (fun w => signs_any l.length 16 w (by decide) (by omega))
  rw [← P.front_zero l l.length] at H16
  have HF : Hid (P.packT l = P.front l l.length l.length) := rfl
  generalize P.packT l = res at HF ⊢
  go_enter Tryd.func12, Tryd.ntmps12
  go_wp2_with (go_at_call 28; go_must (refine (H16.out _).mono ?_); rintro e w' ⟨rfl, rfl⟩)
  go_loop [3, 4, 5, 17] (fun s le ta i => ∃ (j : Nat) (x y : Int), j ≤ l.length ∧ i = .int .i64 j ∧ s = .string (P.strB (P.front l l.length j)) ∧ le = .int .i64 x ∧ ta = .int .i64 y ∧ Hid (P.Rw x y (P.win l j))) (fun _ _ _ i => l.length - (intOf i).toNat)
  case atStart => exact ⟨0, -1, -1, by omega, rfl, rfl, rfl, rfl, hide (.inl ⟨rfl, rfl, rfl, rfl⟩)⟩
  case round =>
    obtain ⟨j, x, y, hj, rfl, rfl, rfl, rfl, HR⟩ := hrel
    have hsz := P.front_le l l.length j
    rw [← P.strB_size] at hsz
    have hsz2 : (P.strB (P.front l l.length j)).size ≤ 80000 := by omega
    clear hsz
    by_cases hlt : j < l.length
    · rcases hcase with h0 | ⟨b, off, rfl, hbs, hcell⟩
      · rw [h0] at hlt; simp at hlt
      have hc := hcell j hlt
      have j0 : (0 : Int) ≤ (j : Int) := by omega
      have j1 : (j : Int) < (l.length : Int) := by omega
      by_cases hz : j = 0
      · subst hz
        rw [Nat.add_zero] at hc
        have hu := hi.at 0
        have HY : Hid (P.strB (P.front l l.length (0 + 1)) = P.strB (P.front l l.length 0) ++ P.strB (P.ofVal (l.getD 0 0).toNat 64)) := by
          show _ = _; rw [P.front_succ, P.strB_app]; rfl
        have HS : Hid (∀ w : World, Calls Tryd.prog 28 #[.int .u64 (l.getD 0 0), .int .i64 64] w fun e w' => e = .returned (.string (P.strB (P.ofVal (l.getD 0 0).toNat 64))) ∧ w' = w) := by
          intro w
          have h := signs_any (l.getD 0 0).toNat 64 w (by decide) (by omega)
          rw [Int.toNat_of_nonneg hu.1] at h
          exact h
        have HR1 : Hid (P.Rw x y (P.win l (0 + 1))) := HR
        have hs3 : (P.strB (P.ofVal (l.getD 0 0).toNat 64)).size ≤ 64 := by rw [P.strB_size, P.ofVal_len]; exact Nat.le_refl _
        generalize P.strB (P.ofVal (l.getD 0 0).toNat 64) = s3 at HY HS hs3
        generalize l.getD 0 0 = t at *
        generalize P.strB (P.front l l.length 0) = s2 at *
        go_wp2_with (go_at_call 28; go_must (refine (HS.out _).mono ?_); rintro e w2 ⟨rfl, rfl⟩)
        go_round
        case rel => exact ⟨0 + 1, x, y, by omega, by go_num, by rw [HY.out], rfl, rfl, HR1⟩
        case measure => simp [intOf]; omega
      · have hjp : 0 < j := by omega
        have hjz : ((j : Int) == 0) = false := by simp; omega
        have hp1 := hcell (j - 1) (by omega)
        have i0 : (0 : Int) ≤ (j : Int) - 1 := by omega
        have i1 : (j : Int) - 1 < (l.length : Int) := by omega
        have e1 : ((j : Int) - 1).toNat = j - 1 := by omega
        have htl := P.tn_lt hi j
        have HN := hide (front_next l l.length j hjp)
        have HW := hide (win_next l j hjp)
        have HS : Hid (∀ w : World, Calls Tryd.prog 28 #[.int .u64 (bits BinOp.xor IntKind.u64 (l.getD j 0) (l.getD (j - 1) 0)), .int .i64 64] w fun e w' => e = .returned (.string (P.strB (P.ofVal (P.tn l j) 64))) ∧ w' = w) := by
          intro w
          have h := signs_any (P.tn l j) 64 w (by decide) (by omega)
          rw [← tn_bits l hi j] at h
          exact h
        generalize P.tn l j = t at htl HN HW HS
        have hof : (P.ofVal t 64).length = 64 := P.ofVal_len t 64
        have HR1 := hide (fun w => run_any (P.ofVal t 64) w (by omega))
        have HBk := hide (fun w => backward_any (P.ofVal t 64) w (by omega))
        have HR2 := hide (fun w => run_any (P.ofVal t 64).reverse w (by rw [List.length_reverse]; omega))
        rw [P.run_lz t htl] at HR1
        have HX := hide (P.strB_extract (P.ofVal t 64))
        have hsT := P.strB_size (P.ofVal t 64)
        have hsT1 : (P.strB (P.ofVal t 64)).size ≤ 64 := by omega
        have hsT2 : 64 ≤ (P.strB (P.ofVal t 64)).size := by omega
        clear hsT hof hcell
        generalize P.strB (P.ofVal t 64) = sT at *
        generalize P.strB (P.ofVal t 64).reverse = sB at HBk HR2
        generalize l.getD j 0 = u at *
        generalize l.getD (j - 1) 0 = u1 at *
        generalize hs2 : P.strB (P.front l l.length j) = s2 at *
        have HS2 := hide hs2
        clear hs2
        by_cases ht0 : t = 0
        · have hA : ((P.lz t : Nat) : Int) = 64 := by rw [ht0]; rfl
          have hA2 : (((P.lz t : Nat) : Int) == 64) = true := by rw [hA]; rfl
          have HY : Hid (P.strB (P.front l l.length (j + 1)) = s2 ++ P.strB (P.ofVal 0 1)) := by
            show _ = _
            rw [HN.out, ← P.strB_app, HS2.out]
            congr 2
            unfold P.tbits; rw [if_pos ht0]
          have HRn : Hid (P.Rw x y (P.win l (j + 1))) := by
            show P.Rw _ _ _
            rw [HW.out]
            unfold P.nw; rw [if_pos ht0]; exact HR.out
          generalize P.lz t = c at HR1 hA2
          generalize P.runL (P.ofVal t 64).reverse = d at HR2
          clear hA ht0 HN HW HX HS2
          go_wp2_with (first
            | (go_at_call 28; go_must (refine (HS.out _).mono ?_); rintro e w2 ⟨rfl, rfl⟩)
            | (go_at_call 29; with_reducible refine (HR1.out _).mono ?_; rintro e w2 ⟨rfl, rfl⟩)
            | (go_at_call 30; refine (HBk.out _).mono ?_; rintro e w2 ⟨rfl, rfl⟩)
            | (go_at_call 29; with_reducible refine (HR2.out _).mono ?_; rintro e w2 ⟨rfl, rfl⟩))
          go_round
          case rel => exact ⟨j + 1, x, y, by omega, by go_num, by rw [HY.out]; rfl, rfl, rfl, HRn⟩
          case measure => simp [intOf]; omega
        · rw [P.run_tz t ht0 htl] at HR2
          have hcd := P.lz_tz t ht0 htl
          by_cases hh : (P.win l j).1 ≤ P.lz t ∧ (P.win l j).2 ≤ P.tz t
          · have hp63 := P.win_holds (P.win_ok hi j) t ht0 htl hh.1
            have HY : Hid (P.strB (P.front l l.length (j + 1)) = s2 ++ P.strB (P.ofVal 2 2) ++ sT.extract (P.win l j).1 (64 - (P.win l j).2)) := by
              show _ = _
              rw [HN.out, ← P.strB_app, HS2.out, HX.out, P.ofVal_cut t 64 _ _ (by omega), ByteArray.append_assoc]
              congr 1
              unfold P.tbits P.body
              rw [if_neg ht0, if_pos hh, P.strB_app]
            have HRn : Hid (P.Rw x y (P.win l (j + 1))) := by
              show P.Rw _ _ _
              rw [HW.out]
              unfold P.nw; rw [if_neg ht0, if_pos hh]; exact HR.out
            have hxy : x = ((P.win l j).1 : Nat) ∧ y = ((P.win l j).2 : Nat) := by
              rcases HR.out with h | h <;> omega
            obtain ⟨rfl, rfl⟩ := hxy
            generalize (P.win l j).1 = pa at *
            generalize (P.win l j).2 = pb at *
            generalize P.lz t = c at *
            generalize P.tz t = d at *
            have hA2 : ((c : Int) == 64) = false := by rw [beq_eq_false_iff_ne]; omega
            have h1 : (pa : Int) ≤ (c : Int) := by omega
            have h2 : (pb : Int) ≤ (d : Int) := by omega
            have h3 : (0 : Int) ≤ (pa : Int) := by omega
            have k0 : (0 : Int) ≤ 64 - (pb : Int) := by omega
            have k1 : (pa : Int) ≤ 64 - (pb : Int) := by omega
            have k2 : 64 - (pb : Int) ≤ (sT.size : Int) := by omega
            have k3 : (64 - (pb : Int)).toNat = 64 - pb := by omega
            have k4 : (sT.extract pa (64 - pb)).size ≤ 64 := by simp; omega
            clear hh ht0 HN HW HX HS2 HR hi
            go_wp2_with (first
              | (go_at_call 28; with_reducible refine (HS.out _).mono ?_; rintro e w2 ⟨rfl, rfl⟩)
              | (go_at_call 29; with_reducible refine (HR1.out _).mono ?_; rintro e w2 ⟨rfl, rfl⟩)
              | (go_at_call 30; refine (HBk.out _).mono ?_; rintro e w2 ⟨rfl, rfl⟩)
              | (go_at_call 29; with_reducible refine (HR2.out _).mono ?_; rintro e w2 ⟨rfl, rfl⟩))
            go_round
            case rel => exact ⟨j + 1, pa, pb, by omega, by go_num, by rw [HY.out]; rfl, rfl, rfl, HRn⟩
            case measure => simp [intOf]; omega
          · have HY : Hid (P.strB (P.front l l.length (j + 1)) = s2 ++ (P.strB (P.ofVal 3 2) ++ P.strB (P.ofVal (P.lz t) 6) ++ P.strB (P.ofVal (63 - P.lz t - P.tz t) 6)) ++ sT.extract (P.lz t) (64 - P.tz t)) := by
              show _ = _
              rw [HN.out, ← P.strB_app, HS2.out, HX.out, P.ofVal_cut t 64 _ _ (by omega), ByteArray.append_assoc]
              congr 1
              unfold P.tbits P.body
              rw [if_neg ht0, if_neg hh, P.strB_app, P.strB_app, P.strB_app, List.append_assoc, List.append_assoc]
            have HRn : Hid (P.Rw (P.lz t) (P.tz t) (P.win l (j + 1))) := by
              show P.Rw _ _ _
              rw [HW.out]
              unfold P.nw; rw [if_neg ht0, if_neg hh]; exact .inr ⟨hcd, rfl, rfl⟩
            have HSa : Hid (∀ w : World, Calls Tryd.prog 28 #[.int .u64 (P.lz t : Nat), .int .i64 6] w fun e w' => e = .returned (.string (P.strB (P.ofVal (P.lz t) 6))) ∧ w' = w) := fun w => signs_any (P.lz t) 6 w (by decide) (by omega)
            have HSb : Hid (∀ w : World, Calls Tryd.prog 28 #[.int .u64 (63 - (P.lz t : Int) - (P.tz t : Int)), .int .i64 6] w fun e w' => e = .returned (.string (P.strB (P.ofVal (63 - P.lz t - P.tz t) 6))) ∧ w' = w) := by
              intro w
              have h := signs_any (63 - P.lz t - P.tz t) 6 w (by decide) (by omega)
              have e : ((63 - P.lz t - P.tz t : Nat) : Int) = 63 - (P.lz t : Int) - (P.tz t : Int) := by omega
              rw [e] at h
              exact h
            have hz1 : (P.strB (P.ofVal (P.lz t) 6)).size ≤ 6 := by rw [P.strB_size, P.ofVal_len]; exact Nat.le_refl _
            have hz2 : (P.strB (P.ofVal (63 - P.lz t - P.tz t) 6)).size ≤ 6 := by rw [P.strB_size, P.ofVal_len]; exact Nat.le_refl _
            have hx := HR.out
            generalize P.strB (P.ofVal (P.lz t) 6) = S1 at *
            generalize P.strB (P.ofVal (63 - P.lz t - P.tz t) 6) = S2 at *
            generalize P.win l j = p at *
            generalize P.lz t = c at *
            generalize P.tz t = d at *
            have hA2 : ((c : Int) == 64) = false := by rw [beq_eq_false_iff_ne]; omega
            have k0 : (0 : Int) ≤ 64 - (d : Int) := by omega
            have k1 : (c : Int) ≤ 64 - (d : Int) := by omega
            have k2 : 64 - (d : Int) ≤ (sT.size : Int) := by omega
            have k3 : (64 - (d : Int)).toNat = 64 - d := by omega
            have k4 : (sT.extract c (64 - d)).size ≤ 64 := by simp; omega
            clear ht0 HN HW HX HS2 HR hi
            rcases hx with ⟨_, _, rfl, rfl⟩ | ⟨hp, rfl, rfl⟩
            · clear hh
              go_wp2_with (first
                | (go_at_call 28; with_reducible refine (HS.out _).mono ?_; rintro e w2 ⟨rfl, rfl⟩)
                | (go_at_call 28; with_reducible refine (HSa.out _).mono ?_; rintro e w2 ⟨rfl, rfl⟩)
                | (go_at_call 28; with_reducible refine (HSb.out _).mono ?_; rintro e w2 ⟨rfl, rfl⟩)
                | (go_at_call 29; with_reducible refine (HR1.out _).mono ?_; rintro e w2 ⟨rfl, rfl⟩)
                | (go_at_call 30; refine (HBk.out _).mono ?_; rintro e w2 ⟨rfl, rfl⟩)
                | (go_at_call 29; with_reducible refine (HR2.out _).mono ?_; rintro e w2 ⟨rfl, rfl⟩))
              go_round
              case rel => exact ⟨j + 1, c, d, by omega, by go_num, by rw [HY.out]; rfl, rfl, rfl, HRn⟩
              case measure => simp [intOf]; omega
            · generalize p.1 = pa at *
              generalize p.2 = pb at *
              have h3 : (0 : Int) ≤ (pa : Int) := by omega
              by_cases hq : pa ≤ c
              · have h1 : (pa : Int) ≤ (c : Int) := by omega
                have h2 : (d : Int) < (pb : Int) := by omega
                clear hh hq
                go_wp2_with (first
                  | (go_at_call 28; with_reducible refine (HS.out _).mono ?_; rintro e w2 ⟨rfl, rfl⟩)
                  | (go_at_call 28; with_reducible refine (HSa.out _).mono ?_; rintro e w2 ⟨rfl, rfl⟩)
                  | (go_at_call 28; with_reducible refine (HSb.out _).mono ?_; rintro e w2 ⟨rfl, rfl⟩)
                  | (go_at_call 29; with_reducible refine (HR1.out _).mono ?_; rintro e w2 ⟨rfl, rfl⟩)
                  | (go_at_call 30; refine (HBk.out _).mono ?_; rintro e w2 ⟨rfl, rfl⟩)
                  | (go_at_call 29; with_reducible refine (HR2.out _).mono ?_; rintro e w2 ⟨rfl, rfl⟩))
                all_goals first
                  | (exfalso; omega)
                  | (go_round
                     case rel => exact ⟨j + 1, c, d, by omega, by go_num, by rw [HY.out]; rfl, rfl, rfl, HRn⟩
                     case measure => simp [intOf]; omega)
              · have h1 : (c : Int) < (pa : Int) := by omega
                clear hh hq
                go_wp2_with (first
                  | (go_at_call 28; with_reducible refine (HS.out _).mono ?_; rintro e w2 ⟨rfl, rfl⟩)
                  | (go_at_call 28; with_reducible refine (HSa.out _).mono ?_; rintro e w2 ⟨rfl, rfl⟩)
                  | (go_at_call 28; with_reducible refine (HSb.out _).mono ?_; rintro e w2 ⟨rfl, rfl⟩)
                  | (go_at_call 29; with_reducible refine (HR1.out _).mono ?_; rintro e w2 ⟨rfl, rfl⟩)
                  | (go_at_call 30; refine (HBk.out _).mono ?_; rintro e w2 ⟨rfl, rfl⟩)
                  | (go_at_call 29; with_reducible refine (HR2.out _).mono ?_; rintro e w2 ⟨rfl, rfl⟩))
                all_goals first
                  | (exfalso; omega)
                  | (go_round
                     case rel => exact ⟨j + 1, c, d, by omega, by go_num, by rw [HY.out]; rfl, rfl, rfl, HRn⟩
                     case measure => simp [intOf]; omega)
    · obtain rfl : j = l.length := by omega
      have hd : decide ((l.length : Int) < (l.length : Int)) = false := by simp
      rw [← HF.out]
      go_wp2
      go_ret
      exact ⟨rfl, rfl⟩
end Go.Proofs.YteohlkpejdjenaaDoor
