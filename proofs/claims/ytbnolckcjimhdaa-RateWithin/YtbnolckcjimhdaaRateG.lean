/- What Grown and Per answer, and the document's own PerUnit; rates answers true. -/
import Derived.Test.YtbnolckcjimhdaaRefRate
namespace Go.Proofs.Ytbnolckcjimhdaa
open Go.RowKit
set_option linter.unusedVariables false
/-- What Grown tells. -/
def grownT (l : List (Int × Int)) : Value := if P.chkC l = 0 then .tuple #[.int .u64 (P.gr l), .int .i64 (P.ae l), .int .i64 0] else .tuple #[.int .u64 0, .int .i64 0, .int .i64 (P.chkC l)]
/-- Where samples are not a counter's, Grown tells nought and nought. -/
theorem grownT_bad {l : List (Int × Int)} (h : P.chkC l ≠ 0) : grownT l = .tuple #[.int .u64 0, .int .i64 0, .int .i64 (P.chkC l)] := by unfold grownT; rw [if_neg h]
theorem grownT_ok {l : List (Int × Int)} (h : P.chkC l = 0) : grownT l = .tuple #[.int .u64 (P.gr l), .int .i64 (P.ae l), .int .i64 0] := by unfold grownT; rw [if_pos h]
theorem grown_any (v : Value) (l : List (Int × Int)) (w : World) (hr : RowS w v l) (hi : P.I64s l) : Calls Try.prog 8 #[v] w fun e w' => e = .returned (grownT l) ∧ Below w.heap.size w w' := by
  have HC := hide (check_C v l w hr)
  have hr0 := hr
  obtain ⟨a, cap, rfl, _, _⟩ := hr
  by_cases hc : P.chkC l = 0
  · rw [hc] at HC
    obtain ⟨h1, h2⟩ := P.chkC_zero hc
    have HG := hide (fun (w' : World) (hb : Below w.heap.size w w') => growth_any _ l w' (hr0.below hb (Nat.le_refl _)) hi h2 (P.chk_zero h1).1)
    have HT : Hid (grownT l = .tuple #[.int .u64 (P.gr l), .int .i64 (P.ae l), .int .i64 0]) := by show _ = _; unfold grownT; rw [if_pos hc]
    generalize grownT l = T at *
    generalize P.gr l = g at *
    generalize P.ae l = ae at *
    clear hc h1 h2 hr0
    go_enter Try.func8, Try.ntmps8
    go_wp2_with fail
    refine HC.out.mono ?_
    rintro e w1 ⟨rfl, hb1⟩
    go_wp2_with fail
    refine (HG.out _ hb1).mono ?_
    rintro e w2 ⟨rfl, hb2⟩
    replace hb1 := Below.next hb1 hb2
    go_wp2
    go_ret3
    exact ⟨by rw [HT.out]; rfl, hb1⟩
  · have HT : Hid (grownT l = .tuple #[.int .u64 0, .int .i64 0, .int .i64 (P.chkC l)]) := by show _ = _; unfold grownT; rw [if_neg hc]
    generalize grownT l = T at *
    generalize P.chkC l = c at *
    have ht : (c != 0) = true := by simpa using hc
    clear hc hr0
    go_enter Try.func8, Try.ntmps8
    go_wp2_with fail
    refine HC.out.mono ?_
    rintro e w1 ⟨rfl, hb1⟩
    go_wp2
    go_ret3
    exact ⟨by rw [HT.out]; rfl, hb1⟩
/-- What Per tells. -/
def perT (l : List (Int × Int)) (f t u : Int) : Value := .tuple #[.int .i64 (P.perV l f t u), .int .i64 (P.perE l f t u)]
theorem perT_of {l : List (Int × Int)} {f t u c : Int} (h : P.perE l f t u = c) (hc : c ≠ 0) : perT l f t u = .tuple #[.int .i64 0, .int .i64 c] := by
  unfold perT P.perV; rw [h, if_pos hc]
theorem per_bad (v : Value) (l : List (Int × Int)) (f t u : Int) (w : World) (hr : RowS w v l) (hc : P.chkC l ≠ 0) : Calls Try.prog 9 #[v, .int .i64 f, .int .i64 t, .int .i64 u] w fun e w' => e = .returned (perT l f t u) ∧ Below w.heap.size w w' := by
  have HC := hide (check_C v l w hr)
  obtain ⟨a, cap, rfl, _, _⟩ := hr
  have HT : Hid (perT l f t u = .tuple #[.int .i64 0, .int .i64 (P.chkC l)]) := perT_of (by unfold P.perE; rw [if_pos hc]) hc
  generalize perT l f t u = T at *
  generalize P.chkC l = c at *
  have ht : (c != 0) = true := by simpa using hc
  clear hc
  go_enter Try.func9, Try.ntmps9
  go_wp2_with fail
  refine HC.out.mono ?_
  rintro e w1 ⟨rfl, hb1⟩
  go_wp2
  go_ret2
  exact ⟨by rw [HT.out]; rfl, hb1⟩
theorem per_arg (v : Value) (l : List (Int × Int)) (f t u : Int) (w : World) (hr : RowS w v l) (hc : P.chkC l = 0) (ha : ¬ P.argOK f t u) : Calls Try.prog 9 #[v, .int .i64 f, .int .i64 t, .int .i64 u] w fun e w' => e = .returned (perT l f t u) ∧ Below w.heap.size w w' := by
  have HC := hide (check_C v l w hr)
  rw [hc] at HC
  have hr0 := hr
  obtain ⟨a, cap, rfl, _, _⟩ := hr
  have HT : Hid (perT l f t u = .tuple #[.int .i64 0, .int .i64 1]) := perT_of (by unfold P.perE; rw [if_neg (by simp [hc]), if_pos ha]) (by decide)
  generalize perT l f t u = T at *
  clear hc hr0
  have HF := hide (inTime_any f)
  have HU := hide (inTime_any t)
  obtain ⟨bf, hbf⟩ : ∃ bf, (decide (-1152921504606846976 ≤ f) && decide (f ≤ 1152921504606846976)) = bf := ⟨_, rfl⟩
  obtain ⟨bt, hbt⟩ : ∃ bt, (decide (-1152921504606846976 ≤ t) && decide (t ≤ 1152921504606846976)) = bt := ⟨_, rfl⟩
  rw [hbf] at HF
  rw [hbt] at HU
  have hcase : (decide (t ≤ f) = true) ∨ (decide (t ≤ f) = false ∧ bf = false) ∨ (decide (t ≤ f) = false ∧ bf = true ∧ bt = false) ∨ (decide (t ≤ f) = false ∧ bf = true ∧ bt = true ∧ decide (u < 1) = true) ∨ (decide (t ≤ f) = false ∧ bf = true ∧ bt = true ∧ decide (u < 1) = false ∧ decide (1099511627776 < u) = true) := by
    subst hbf hbt
    unfold P.argOK at ha
    simp only [decide_eq_true_eq, decide_eq_false_iff_not, Bool.and_eq_true, Bool.and_eq_false_iff]
    omega
  clear hbf hbt ha
  rcases hcase with h1 | ⟨h1, rfl⟩ | ⟨h1, rfl, rfl⟩ | ⟨h1, rfl, rfl, h2⟩ | ⟨h1, rfl, rfl, h2, h3⟩
  all_goals
    go_enter Try.func9, Try.ntmps9
    go_wp2_with (first
      | (go_at_call 16; go_must (refine HC.out.mono ?_); rintro e w1 ⟨rfl, hb1⟩)
      | (go_at_call 18; first
          | (with_reducible refine (HF.out _).mono ?_; rintro e w2 ⟨rfl, rfl⟩)
          | (with_reducible refine (HU.out _).mono ?_; rintro e w2 ⟨rfl, rfl⟩)))
    go_ret2
    exact ⟨by rw [HT.out]; rfl, by assumption⟩
theorem per_few (v : Value) (l : List (Int × Int)) (f t u : Int) (w : World) (hr : RowS w v l) (hc : P.chkC l = 0) (ha : P.argOK f t u) (hl : (P.btw l f t).length < 2) : Calls Try.prog 9 #[v, .int .i64 f, .int .i64 t, .int .i64 u] w fun e w' => e = .returned (perT l f t u) ∧ Below w.heap.size w w' := by
  have HC := hide (check_C v l w hr)
  rw [hc] at HC
  have HR := hide (fun (w' : World) (hb : Below w.heap.size w w') => range_ok v l f t w' (hr.below hb (Nat.le_refl _)) (P.chkC_zero hc).1)
  obtain ⟨a, cap, rfl, _, _⟩ := hr
  have HT : Hid (perT l f t u = .tuple #[.int .i64 0, .int .i64 13]) := perT_of (by unfold P.perE; rw [if_neg (by simp [hc]), if_neg (not_not_intro ha), if_pos hl]) (by decide)
  generalize perT l f t u = T at *
  generalize P.btw l f t = X at *
  clear hc
  have HF := hide (inTime_any f)
  have HU := hide (inTime_any t)
  obtain ⟨a1, a2, a3, a4, a5⟩ := ha
  rw [show (decide (-1152921504606846976 ≤ f) && decide (f ≤ 1152921504606846976)) = true by simp [a2]] at HF
  rw [show (decide (-1152921504606846976 ≤ t) && decide (t ≤ 1152921504606846976)) = true by simp [a3]] at HU
  have d1 : decide (t ≤ f) = false := by simpa using a1
  have d2 : decide (u < 1) = false := by simpa using a4
  have d3 : decide (1099511627776 < u) = false := by simpa using a5
  have d4 : decide ((X.length : Int) < 2) = true := by simp; omega
  go_enter Try.func9, Try.ntmps9
  go_wp2_with (first
    | (go_at_call 16; go_must (refine HC.out.mono ?_); rintro e w1 ⟨rfl, hb1⟩)
    | (go_at_call 18; first
        | (with_reducible refine (HF.out _).mono ?_; rintro e w2 ⟨rfl, rfl⟩)
        | (with_reducible refine (HU.out _).mono ?_; rintro e w2 ⟨rfl, rfl⟩))
    | (go_at_call 15; refine (HR.out _ (by assumption)).mono ?_; rintro e w3 ⟨v', rfl, hown, hb3⟩; obtain ⟨av, cv, hv⟩ := hown.shp; rw [hv]; clear hv))
  go_ret2
  exact ⟨by rw [HT.out]; rfl, Below.next hb1 hb3⟩
/-- What a row of two samples and more has at its first and its last place. -/
theorem ends_of {w : World} {b off n cap : Nat} {X : List (Int × Int)} (h : RowS w (.slice (some ⟨b, off, none⟩) n cap) X) (h2 : 2 ≤ X.length) {m : Nat} (hm : m + 1 = X.length) : w.cell? ⟨b, off, none⟩ = some (.int .i64 (X.getD 0 (0, 0)).1) ∧ w.cell? ⟨b, off + m * 2, none⟩ = some (.int .i64 (X.getD m (0, 0)).1) := by
  obtain ⟨a, c, hv, _, h | ⟨b', off', rfl, _, hcell⟩⟩ := h
  · rw [h] at h2; simp at h2
  · simp only [Value.slice.injEq, Option.some.injEq, Addr.mk.injEq, and_true] at hv
    obtain ⟨⟨rfl, rfl⟩, _, _⟩ := hv
    exact ⟨by simpa using (hcell 0 (by omega)).1, (hcell m (by omega)).1⟩
theorem some_of {w : World} {a : Option Addr} {n cap : Nat} {X : List (Int × Int)} (h : RowS w (.slice a n cap) X) (h2 : 2 ≤ X.length) : ∃ b off, a = some ⟨b, off, none⟩ := by
  obtain ⟨a', c, hv, _, h | ⟨b', off', rfl, _, hcell⟩⟩ := h
  · rw [h] at h2; simp at h2
  · simp only [Value.slice.injEq] at hv
    exact ⟨b', off', hv.1⟩
theorem per_far (v : Value) (l : List (Int × Int)) (f t u : Int) (w : World) (hr : RowS w v l) (hi : P.I64s l) (hc : P.chkC l = 0) (ha : P.argOK f t u) (hl : 2 ≤ (P.btw l f t).length) : Calls Try.prog 9 #[v, .int .i64 f, .int .i64 t, .int .i64 u] w fun e w' => e = .returned (perT l f t u) ∧ Below w.heap.size w w' := by
  have HC := hide (check_C v l w hr)
  rw [hc] at HC
  have HR := hide (fun (w' : World) (hb : Below w.heap.size w w') => range_ok v l f t w' (hr.below hb (Nat.le_refl _)) (P.chkC_zero hc).1)
  have hb0 := P.chkC_zero (P.chkC_btw hc f t)
  have hris := (P.chk_zero hb0.1).2
  have hix := P.btw_i64 hi f t
  have HG := hide (fun v' w' (h : RowS w' v' (P.btw l f t)) => growth_any v' _ w' h hix hb0.2 (P.chk_zero hb0.1).1)
  obtain ⟨a, cap, rfl, _, _⟩ := hr
  have hT1 := fun (h : 9223372036854775808 ≤ P.gr (P.btw l f t) * u) => perT_of (l := l) (f := f) (t := t) (u := u) (c := 2) (by unfold P.perE; rw [if_neg (by simp [hc]), if_neg (not_not_intro ha), if_neg (by omega), if_pos h]) (by decide)
  have hT0 : ¬ 9223372036854775808 ≤ P.gr (P.btw l f t) * u → perT l f t u = .tuple #[.int .i64 (P.gr (P.btw l f t) * u / P.far (P.btw l f t)), .int .i64 0] := fun h => by
    have h0 : P.perE l f t u = 0 := by unfold P.perE; rw [if_neg (by simp [hc]), if_neg (not_not_intro ha), if_neg (by omega), if_neg h]
    unfold perT P.perV; rw [h0, if_neg (by decide)]
  have hfar := P.far_pos hris hl
  have hg0 := P.gr_lo (P.btw l f t)
  have hg1 := P.gr_hi (P.btw l f t)
  have hXl := (P.chk_zero hb0.1).1
  have hin := fun j (hj : j < (P.btw l f t).length) => P.btw_in l f t j hj
  have hdv := P.div_iff (g := P.gr (P.btw l f t)) ha.2.2.2.1
  generalize perT l f t u = T at *
  have hfe : P.far (P.btw l f t) = ((P.btw l f t).getD ((P.btw l f t).length - 1) (0, 0)).1 - ((P.btw l f t).getD 0 (0, 0)).1 := rfl
  generalize P.btw l f t = X at *
  obtain ⟨m, hm⟩ : ∃ m, m + 1 = X.length := ⟨X.length - 1, by omega⟩
  rw [show X.length - 1 = m by omega] at hfe
  have hq0 := hin 0 (by omega)
  have hq1 := hin m (by omega)
  have HE := hide (fun (w : World) b off cap (h : RowS w (.slice (some ⟨b, off, none⟩) X.length cap) X) => ends_of h hl hm)
  have HS := hide (fun (w : World) a cap (h : RowS w (.slice a X.length cap) X) => some_of h hl)
  generalize P.gr X = g at *
  generalize P.ae X = ae at *
  generalize P.far X = d at *
  generalize (X.getD 0 (0, 0)).1 = x0 at *
  generalize (X.getD m (0, 0)).1 = x1 at *
  clear hc hb0 hris hix hin hi
  have HF := hide (inTime_any f)
  have HU := hide (inTime_any t)
  obtain ⟨a1, a2, a3, a4, a5⟩ := ha
  rw [show (decide (-1152921504606846976 ≤ f) && decide (f ≤ 1152921504606846976)) = true by simp [a2]] at HF
  rw [show (decide (-1152921504606846976 ≤ t) && decide (t ≤ 1152921504606846976)) = true by simp [a3]] at HU
  have d1 : decide (t ≤ f) = false := by simpa using a1
  have d2 : decide (u < 1) = false := by simpa using a4
  have d3 : decide (1099511627776 < u) = false := by simpa using a5
  have d4 : decide ((X.length : Int) < 2) = false := by simp; omega
  go_enter Try.func9, Try.ntmps9
  go_wp2_with (first
    | (go_at_call 16; go_must (refine HC.out.mono ?_); rintro e w1 ⟨rfl, hb1⟩)
    | (go_at_call 18; first
        | (with_reducible refine (HF.out _).mono ?_; rintro e w2 ⟨rfl, rfl⟩)
        | (with_reducible refine (HU.out _).mono ?_; rintro e w2 ⟨rfl, rfl⟩))
    | (go_at_call 15; refine (HR.out _ (by assumption)).mono ?_; rintro e w3 ⟨v', rfl, hown, hb3⟩; obtain ⟨av, cv, hv⟩ := hown.shp; rw [hv] at hown ⊢; clear hv))
  refine (HG.out _ _ hown.row).mono ?_
  rintro e w4 ⟨rfl, hb4⟩
  replace hb1 := Below.next (Below.next hb1 hb3) hb4
  have hrow := hown.row.below hb4 (Nat.le_refl _)
  obtain ⟨b, off, rfl⟩ := HS.out _ _ _ hrow
  obtain ⟨e0, e1⟩ := HE.out _ _ _ _ hrow
  clear hrow hown hb3 hb4 HE HS HG HR HC
  have ei : IntKind.i64.wrap ((X.length : Int) - 1) = (m : Int) := by rw [IntKind.wrap_i64]; omega
  have hu0 : (u == 0) = false := by rw [beq_eq_false_iff_ne]; omega
  have hz : u ≠ 0 := by omega
  by_cases hL : 9223372036854775808 ≤ g * u
  · have HT := hide (hT1 (by omega))
    have hq : decide (9223372036854775807 / u < g) = true := by rw [decide_eq_true_eq]; exact hdv.2 (by omega)
    clear hT0 hT1 hdv
    go_wp2
    go_ret2
    exact ⟨by rw [HT.out]; rfl, hb1⟩
  · have HT := hide (hT0 (by omega))
    have hq : decide (9223372036854775807 / u < g) = false := by rw [decide_eq_false_iff_not]; exact fun h => by have := hdv.1 h; omega
    have hgu : g ≤ g * u := by have := Int.mul_le_mul_of_nonneg_left a4 hg0; omega
    clear hT0 hT1 hdv hu0
    obtain ⟨p, hp⟩ : ∃ p, g * u = p := ⟨_, rfl⟩
    rw [hp] at hL HT hgu
    have p0 : 0 ≤ p := by omega
    have p1 : p ≤ 9223372036854775807 := by omega
    have g2 : g ≤ 9223372036854775807 := by omega
    have hdz : x1 - x0 ≠ 0 := by omega
    have m0 : (0 : Int) ≤ (m : Int) := by omega
    have m1 : (m : Int) < (X.length : Int) := by omega
    have m2 : (0 : Int) < (X.length : Int) := by omega
    go_wp2
    go_quiet (fail)
    go_wp2
    go_ret2
    exact ⟨by rw [HT.out, hfe]; rfl, below_dn hb1 _⟩
theorem per_any (v : Value) (l : List (Int × Int)) (f t u : Int) (w : World) (hr : RowS w v l) (hi : P.I64s l) : Calls Try.prog 9 #[v, .int .i64 f, .int .i64 t, .int .i64 u] w fun e w' => e = .returned (perT l f t u) ∧ Below w.heap.size w w' := by
  by_cases hc : P.chkC l = 0
  · by_cases ha : P.argOK f t u
    · by_cases hl : 2 ≤ (P.btw l f t).length
      · exact per_far v l f t u w hr hi hc ha hl
      · exact per_few v l f t u w hr hc ha (by omega)
    · exact per_arg v l f t u w hr hc ha
  · exact per_bad v l f t u w hr hc
theorem two_any (w : World) : Calls Try.prog 22 #[] w fun e w' => ∃ v, e = .returned v ∧ RowS w' v [(1, 5), (3, 8)] ∧ Below w.heap.size w w' := by
  go_enter Try.func22, Try.ntmps22
  go_wp2
  go_ret
  refine ⟨_, rfl, ⟨_, 2, rfl, ⟨by simp, by decide, fun h => by cases h⟩, .inr ⟨w.heap.size, 0, rfl, by simp, fun j hj => ?_⟩⟩, (Below.refl _ _).alloc (Nat.le_refl _) _⟩
  match j, hj with
  | 0, _ => simp
  | 1, _ => simp
theorem rates_any (w : World) : Calls Try.prog 13 #[] w fun e w' => e = .returned (.bool true) ∧ Below w.heap.size w w' := by
  have HT := hide (two_any w)
  have HG := hide (fun v w (h : RowS w v [(1, 5), (3, 8)]) => grown_any v _ w h (by intro s hs; simp at hs; rcases hs with rfl | rfl <;> simp))
  rw [show grownT [(1, 5), (3, 8)] = .tuple #[.int .u64 3, .int .i64 0, .int .i64 0] by unfold grownT; rw [if_pos (by decide)]; rfl] at HG
  go_enter Try.func13, Try.ntmps13
  go_wp2_with (first
    | (go_at_call 22; go_must (refine HT.out.mono ?_); rintro e w1 ⟨v, rfl, hrow, hb⟩; obtain ⟨av, cv, hv⟩ := hrow.shp; rw [hv] at hrow ⊢; clear hv)
    | (go_at_call 8; go_must (refine (HG.out _ _ hrow).mono ?_); rintro e w2 ⟨rfl, hb2⟩))
  go_ret
  exact ⟨rfl, Below.next hb hb2⟩
end Go.Proofs.Ytbnolckcjimhdaa
