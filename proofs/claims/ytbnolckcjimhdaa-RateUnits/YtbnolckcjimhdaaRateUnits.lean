/- RateUnits holds: at all samples and numbers the law answers true and changes nothing that was there. -/
import Derived.Test.YtbnolckcjimhdaaRateG
namespace Go.Proofs.Ytbnolckcjimhdaa
open Go.ChangeShapes Go.WideShapes Go.ChangeAt Go.RowKit
set_option linter.unusedVariables false
theorem walk_RateUnits (v : Value) (l : List (Int × Int)) (f t u k : Int) (w : World) (hr : RowS w v l) (hi : P.I64s l) (_ : l.length * 16 ≤ 140737488351232) (_ : -9223372036854775808 ≤ f) (_ : f ≤ 9223372036854775807) (_ : -9223372036854775808 ≤ t) (_ : t ≤ 9223372036854775807) (_ : -9223372036854775808 ≤ u) (_ : u ≤ 9223372036854775807) (_ : -9223372036854775808 ≤ k) (_ : k ≤ 9223372036854775807) :
    Calls Try.prog 6 #[v, .int .i64 f, .int .i64 t, .int .i64 u, .int .i64 k] w fun e w' => e = .returned (.bool true) ∧ Below w.heap.size w w' := by
  have HP := hide (fun (u : Int) (w' : World) (hb : Below w.heap.size w w') => per_any v l f t u w' (hr.below hb (Nat.le_refl _)) hi)
  obtain ⟨a, cap, rfl⟩ := hr.shp
  clear hr hi
  by_cases hok : 1 ≤ k ∧ k ≤ 1000 ∧ 1 ≤ u ∧ u ≤ 1099511627776 / k
  · obtain ⟨k1, k2, u1, u2⟩ := hok
    have huk : u * k ≤ 1099511627776 := (Int.le_ediv_iff_mul_le (by omega)).1 u2
    have huk1 : u ≤ u * k := by have := Int.mul_le_mul_of_nonneg_left k1 (show 0 ≤ u by omega); omega
    have hE := P.perE_unit (l := l) (f := f) (t := t) u1 k1 huk
    have hV := P.perV_unit (l := l) (f := f) (t := t) (u := u) k1
    have hB1 := P.perV_bound l f t u
    have hB2 := P.perV_bound l f t (u * k)
    have hz1 : P.perE l f t u ≠ 0 → P.perV l f t u = 0 := fun h => by unfold P.perV; rw [if_pos h]
    have hz2 : P.perE l f t (u * k) ≠ 0 → P.perV l f t (u * k) = 0 := fun h => by unfold P.perV; rw [if_pos h]
    have HA := hide (HP.out u)
    have HB := hide (HP.out (u * k))
    simp only [perT] at HA HB
    generalize P.perE l f t u = e1 at *
    generalize P.perV l f t u = n1 at *
    generalize P.perE l f t (u * k) = e2 at *
    generalize P.perV l f t (u * k) = n2 at *
    obtain ⟨uk, huk0⟩ : ∃ uk, u * k = uk := ⟨_, rfl⟩
    rw [huk0] at HB huk huk1
    have d1 : decide (k < 1) = false := by simp; omega
    have d2 : decide (1000 < k) = false := by simp; omega
    have d3 : decide (u < 1) = false := by simp; omega
    have d4 : decide (1099511627776 / k < u) = false := by simp; omega
    have kz : k ≠ 0 := by omega
    clear HP
    by_cases h1 : e1 = 0
    · subst h1
      have s1 : ((0 : Int) == 0) = true := rfl
      by_cases h2 : e2 = 0
      · subst h2
        have HV := hide (hV rfl rfl)
        clear hV hE hz1 hz2
        go_enter Try.func6, Try.ntmps6
        go_wp2_with (first
          | (go_at_call 13; go_must (refine (rates_any _).mono ?_); rintro e w1 ⟨rfl, hb⟩)
          | (go_at_call 9; first
              | (with_reducible refine (HA.out _ (by assumption)).mono ?_; rintro e w2 ⟨rfl, hb2⟩; replace hb := Below.next hb hb2; clear hb2)
              | (with_reducible refine (HB.out _ (by assumption)).mono ?_; rintro e w2 ⟨rfl, hb2⟩; replace hb := Below.next hb hb2; clear hb2)))
        have hh : (n2 / k == n1) = true := by rw [beq_iff_eq, ← Int.tdiv_eq_ediv_of_nonneg hB2.1]; exact HV.out
        go_ret
        exact ⟨congrArg (fun b => Ending.returned (.bool b)) hh, hb⟩
      · obtain rfl : e2 = 2 := by omega
        obtain rfl : n2 = 0 := hz2 (by decide)
        clear hV hE hz1 hz2
        go_enter Try.func6, Try.ntmps6
        go_wp2_with (first
          | (go_at_call 13; go_must (refine (rates_any _).mono ?_); rintro e w1 ⟨rfl, hb⟩)
          | (go_at_call 9; first
              | (with_reducible refine (HA.out _ (by assumption)).mono ?_; rintro e w2 ⟨rfl, hb2⟩; replace hb := Below.next hb hb2; clear hb2)
              | (with_reducible refine (HB.out _ (by assumption)).mono ?_; rintro e w2 ⟨rfl, hb2⟩; replace hb := Below.next hb hb2; clear hb2)))
        go_ret
        exact ⟨rfl, hb⟩
    · obtain rfl : e2 = e1 := by omega
      obtain rfl : n1 = 0 := hz1 h1
      obtain rfl : n2 = 0 := hz2 h1
      have s1 : (e2 != 0) = true := by simpa using h1
      have s2 : (e2 == 0) = false := by simpa using h1
      have s3 : (e2 == e2) = true := by simp
      clear hV hE hz1 hz2 h1
      go_enter Try.func6, Try.ntmps6
      go_wp2_with (first
        | (go_at_call 13; go_must (refine (rates_any _).mono ?_); rintro e w1 ⟨rfl, hb⟩)
        | (go_at_call 9; first
            | (with_reducible refine (HA.out _ (by assumption)).mono ?_; rintro e w2 ⟨rfl, hb2⟩; replace hb := Below.next hb hb2; clear hb2)
            | (with_reducible refine (HB.out _ (by assumption)).mono ?_; rintro e w2 ⟨rfl, hb2⟩; replace hb := Below.next hb hb2; clear hb2)))
      go_ret
      exact ⟨rfl, hb⟩
  · clear HP
    have hcase : decide (k < 1) = true ∨ (decide (k < 1) = false ∧ decide (1000 < k) = true) ∨ (decide (k < 1) = false ∧ decide (1000 < k) = false ∧ decide (u < 1) = true) ∨ (decide (k < 1) = false ∧ decide (1000 < k) = false ∧ decide (u < 1) = false ∧ 1 ≤ k ∧ decide (1099511627776 / k < u) = true) := by
      simp only [decide_eq_true_eq, decide_eq_false_iff_not]
      generalize 1099511627776 / k = z at *
      omega
    clear hok
    rcases hcase with d1 | ⟨d1, d2⟩ | ⟨d1, d2, d3⟩ | ⟨d1, d2, d3, kz, d4⟩
    all_goals
      go_enter Try.func6, Try.ntmps6
      go_wp2_with (go_at_call 13; go_must (refine (rates_any _).mono ?_); rintro e w1 ⟨rfl, hb⟩)
      go_ret
      exact ⟨rfl, hb⟩

set_option maxRecDepth 100000 in
theorem lifted_RateUnits (os : Os) (started : os.Started) (H : Type) (enc : TypeId × Value → H) :
    ReturnsInHanded {} Try.checked os 6 .any (Rows.rateUnitsSpec.pre6 enc Try.prog Try.f6 Rows.rateUnitsRow.domain false) (Rows.rateUnitsSpec.post enc Try.prog Try.f6 false true false false) := by
  refine returnsInHanded_of_change_sized (C := Try.checked) own started (by kernel_rfl) Try.func6
    (ChangeSpec.witness6 (enc := enc) (C := Try.checked) false ⟨#[], #[.slice none 0 0, .int .i64 0, .int .i64 0, .int .i64 0, .int .i64 0], []⟩ 8 (by kernel_rfl) (by kernel_rfl) (by kernel_rfl) (by kernel_rfl)) ?_
  intro W base args ds gs before hval0 hW hcnd hsz0  _
  have hsz : (DataW.weightsEach Try.prog (Try.f6.params.toList ++ Rows.rateUnitsSpec.plain.varTypes Try.prog) (ds ++ gs)).all (· ≤ reachBytes) = true := hsz0
  have hval : ∀ (j : Nat) t v, Try.f6.params[j]? = some t → args[j]? = some v → Value.okWide Try.prog W .any base t v := hval0
  have hW' := hW
  obtain ⟨p, q, hA0, hV, rfl, hfz, hnd⟩ := hW
  have hA : DataW.TrodAll enc Try.prog W 0 (fun _ => true) true Try.f6.params.toList args.toList ds p := hA0
  rw [Try.params6] at hA hval hsz
  obtain ⟨v0, vs0, d0, ds0, p0, q0, hargs, rfl, rfl, h0, r0⟩ := trodAll_cons hA
  obtain ⟨v1, vs1, d1, ds1, p1, q1, rfl, rfl, rfl, h1, r1⟩ := trodAll_cons r0
  obtain ⟨v2, vs2, d2, ds2, p2, q2, rfl, rfl, rfl, h2, r2⟩ := trodAll_cons r1
  obtain ⟨v3, vs3, d3, ds3, p3, q3, rfl, rfl, rfl, h3, r3⟩ := trodAll_cons r2
  obtain ⟨v4, vs4, d4, ds4, p4, q4, rfl, rfl, rfl, h4, r4⟩ := trodAll_cons r3
  obtain ⟨rfl, rfl, rfl⟩ := trodAll_nil r4
  obtain rfl : args = #[v0, v1, v2, v3, v4] := by cases args; simp_all
  obtain ⟨rfl, rfl⟩ := trodVars_none hV
  have k0 := h0
  have lt0 : ∀ x ∈ p0, x.block < W.heap.size := by obtain ⟨m, hm⟩ := k0; exact DataW.trod_lt m _ _ _ hm
  obtain ⟨s0, len0, cap0, rfl⟩ := okWide_slice Try.underlying22 (hval 0 22 v0 rfl rfl)
  obtain ⟨l0, row0, wf0, sh0⟩ := open_samples h0
  have rc0 := row_reachN hsz (j := 0) (t := 22) rfl rfl Try.underlying22 sh0
  rw [bytes37] at rc0
  have k1 := h1
  have lt1 : ∀ x ∈ p1, x.block < W.heap.size := by obtain ⟨m, hm⟩ := k1; exact DataW.trod_lt m _ _ _ hm
  obtain ⟨a1, rfl, rfl, rfl, w1⟩ := open_int Try.underlying2 (hval 1 2 v1 rfl rfl) h1
  have b1 := bounds_i64 w1
  have k2 := h2
  have lt2 : ∀ x ∈ p2, x.block < W.heap.size := by obtain ⟨m, hm⟩ := k2; exact DataW.trod_lt m _ _ _ hm
  obtain ⟨a2, rfl, rfl, rfl, w2⟩ := open_int Try.underlying2 (hval 2 2 v2 rfl rfl) h2
  have b2 := bounds_i64 w2
  have k3 := h3
  have lt3 : ∀ x ∈ p3, x.block < W.heap.size := by obtain ⟨m, hm⟩ := k3; exact DataW.trod_lt m _ _ _ hm
  obtain ⟨a3, rfl, rfl, rfl, w3⟩ := open_int Try.underlying2 (hval 3 2 v3 rfl rfl) h3
  have b3 := bounds_i64 w3
  have k4 := h4
  have lt4 : ∀ x ∈ p4, x.block < W.heap.size := by obtain ⟨m, hm⟩ := k4; exact DataW.trod_lt m _ _ _ hm
  obtain ⟨a4, rfl, rfl, rfl, w4⟩ := open_int Try.underlying2 (hval 4 2 v4 rfl rfl) h4
  have b4 := bounds_i64 w4
  clear hA0 hval0
  refine (walk_RateUnits (.slice s0 len0 cap0) l0 a1 a2 a3 a4 W row0 wf0 rc0 b1.1 b1.2 b2.1 b2.2 b3.1 b3.2 b4.1 b4.2).mono fun e W' ⟨he, bel⟩ => ?_
  subst he
  exact ⟨_, rfl, _, _, _, [], _, [], hW', trodAll_mk1 (shut_bool Try.underlying4 _), (trodAll_cons_mk (Below.trod laidOut (by kernel_rfl) (of_decide_eq_true (by kernel_rfl)) k0 bel lt0) (trodAll_cons_mk (Below.trod laidOut (by kernel_rfl) (of_decide_eq_true (by kernel_rfl)) k1 bel lt1) (trodAll_cons_mk (Below.trod laidOut (by kernel_rfl) (of_decide_eq_true (by kernel_rfl)) k2 bel lt2) (trodAll_cons_mk (Below.trod laidOut (by kernel_rfl) (of_decide_eq_true (by kernel_rfl)) k3 bel lt3) (trodAll_cons_mk (Below.trod laidOut (by kernel_rfl) (of_decide_eq_true (by kernel_rfl)) k4 bel lt4) trodAll_mk0))))), rfl, bel.frame _, fun h => by cases h⟩

theorem proved_RateUnits : Rows.RateUnitsSaid :=
  OpenClaim.holds_of_wide 6 Try.f6 rfl rfl rfl rfl rfl rfl rfl ⟨rfl, rfl, rfl, rfl, rfl⟩ rfl rfl rfl rfl rfl (by kernel_rfl) Try.func6 (by kernel_rfl)
    (of_decide_eq_true (by kernel_rfl)) (by unfold Func.isWrapper; first | (rw [if_pos (by decide +kernel)]; kernel_rfl) | (rw [if_neg (by decide +kernel)]; exact ⟨rfl, rfl⟩))
    (fun os started H enc _ => lifted_RateUnits os started H enc)
#print axioms proved_RateUnits

end Go.Proofs.Ytbnolckcjimhdaa
