/- RankWeight holds: at all ranks and numbers the law answers true and changes nothing that was there. -/
import Derived.Test.YtlndbmenaaiogabRankW
import Derived.Test.YtlndbmenaaiogabRankE
import Derived.Test.YtlndbmenaaiogabGood
namespace Go.Proofs.Ytlndbmenaaiogab
open Go.ChangeShapes Go.WideShapes Go.ChangeAt Go.RowKit
set_option linter.unusedVariables false
theorem walk_RankWeight (tv lv : Value) (s : P.Rk) (x y : Int) (w : World) (hr : RkV w tv lv s) (hi : RkI s) (_ : -9223372036854775808 ≤ x) (_ : x ≤ 9223372036854775807) (_ : -9223372036854775808 ≤ y) (_ : y ≤ 9223372036854775807) :
    Calls Try.prog 5 #[aggR tv lv s, .int .i64 x, .int .i64 y] w fun e w' => e = .returned (.bool true) ∧ Below w.heap.size w w' := by
  have HB := hide ((Below.refl _ w).alloc (Nat.le_refl _) (.cells #[.int .i64 s.k, tv, lv, .int .i64 s.n, .int .i64 s.sl] 26))
  obtain ⟨b0, b1, b2, b3, b4⟩ := box5 (w := w) (c0 := .int .i64 s.k) (c1 := tv) (c2 := lv) (c3 := .int .i64 s.n) (c4 := .int .i64 s.sl) (t := 26)
  by_cases hg : P.Good s
  · have HW := hide (fun (z : Int) wx (hb : Below w.heap.size w wx) => Weight_ok tv lv s z wx (hr.below hb (Nat.le_refl _)) hg)
    have e1 : (P.wtR 9223372036854775807 s : Int) = s.n := P.wtR_all hg.1 fun v hv => (hi.kept v hv).2
    have hm := fun (a b : Int) (h : a ≤ b) => P.wtR_mono h s
    have e2 : ((P.wtR 9223372036854775807 s : Int) == s.n) = true := by rw [beq_iff_eq]; exact e1
    have x0 : (0 : Int) ≤ (P.wtR x s : Int) := by omega
    have y0 : (0 : Int) ≤ (P.wtR y s : Int) := by omega
    have x1 : (P.wtR x s : Int) ≤ (P.wtR 9223372036854775807 s : Int) := by have := hm x 9223372036854775807 (by omega); omega
    have y1 : (P.wtR y s : Int) ≤ (P.wtR 9223372036854775807 s : Int) := by have := hm y 9223372036854775807 (by omega); omega
    have hxy : (y < x ∧ ¬ x < y ∧ (P.wtR y s : Int) ≤ (P.wtR x s : Int)) ∨ (¬ y < x ∧ x < y ∧ (P.wtR x s : Int) ≤ (P.wtR y s : Int)) ∨ (¬ y < x ∧ ¬ x < y ∧ (P.wtR x s : Int) ≤ (P.wtR x s : Int)) := by
      rcases Int.lt_trichotomy x y with h | h | h
      · exact .inr (.inl ⟨by omega, h, by have := hm x y (by omega); omega⟩)
      · exact .inr (.inr ⟨by omega, by omega, by omega⟩)
      · exact .inl ⟨h, by omega, by have := hm y x (by omega); omega⟩
    clear hr hi hg e1 hm
    rcases hxy with ⟨p1, p2, p3⟩ | ⟨p1, p2, p3⟩ | ⟨p1, p2, p3⟩
    all_goals
      go_enter Try.func5, Try.ntmps5
      go_wp2_with (go_at_call 6; go_must (refine (ranks_any _).mono ?_); rintro e w1 ⟨rfl, hb1⟩; have d0 := keep_cell b0 hb1; have d1 := keep_cell b1 hb1; have d2 := keep_cell b2 hb1; have d3 := keep_cell b3 hb1; have d4 := keep_cell b4 hb1; have HB1 := hide (Below.next HB.out hb1); clear hb1 b0 b1 b2 b3 b4)
      refine (HW.out _ _ HB1.out).mono ?_
      rintro e w2 ⟨rfl, hb2⟩
      have e0 := keep_cell d0 hb2; have e1 := keep_cell d1 hb2; have e2' := keep_cell d2 hb2; have e3 := keep_cell d3 hb2; have e4 := keep_cell d4 hb2
      have HB2 := hide (Below.next HB1.out hb2)
      clear hb2 d0 d1 d2 d3 d4
      go_wp2_with fail
      refine (HW.out _ _ HB2.out).mono ?_
      rintro e w3 ⟨rfl, hb3⟩
      have f0 := keep_cell e0 hb3; have f1 := keep_cell e1 hb3; have f2 := keep_cell e2' hb3; have f3 := keep_cell e3 hb3; have f4 := keep_cell e4 hb3
      have HB3 := hide (Below.next HB2.out hb3)
      clear hb3 e0 e1 e2' e3 e4
      go_wp2_with fail
      refine (HW.out _ _ HB3.out).mono ?_
      rintro e w4 ⟨rfl, hb4⟩
      have g3 := keep_alloc (keep_cell f3 hb4) (.cells #[.int .i64 0, .int .i64 0] 29)
      have HB4 := hide (Below.next HB3.out hb4)
      clear hb4 f0 f1 f2 f3 f4
      go_wp2_with (go_at_call 12; go_must (refine (good_zeros _ 2 _ (row_two_zeros _ _)).mono ?_); rintro e w5 ⟨rfl, rfl⟩)
      go_ret
      exact ⟨rfl, HB4.out.alloc HB4.out.size _⟩
  · have HW := hide (fun (z : Int) wx (hb : Below w.heap.size w wx) => Weight_bad tv lv s z wx (hr.below hb (Nat.le_refl _)) hg)
    clear hr hi hg
    have hxy : (y < x ∧ ¬ x < y) ∨ (¬ y < x ∧ x < y) ∨ (¬ y < x ∧ ¬ x < y) := by omega
    rcases hxy with ⟨p1, p2⟩ | ⟨p1, p2⟩ | ⟨p1, p2⟩
    all_goals
      go_enter Try.func5, Try.ntmps5
      go_wp2_with (go_at_call 6; go_must (refine (ranks_any _).mono ?_); rintro e w1 ⟨rfl, hb1⟩; have d0 := keep_cell b0 hb1; have d1 := keep_cell b1 hb1; have d2 := keep_cell b2 hb1; have d3 := keep_cell b3 hb1; have d4 := keep_cell b4 hb1; have HB1 := hide (Below.next HB.out hb1); clear hb1 b0 b1 b2 b3 b4)
      refine (HW.out _ _ HB1.out).mono ?_
      rintro e w2 ⟨rfl, hb2⟩
      have e0 := keep_cell d0 hb2; have e1 := keep_cell d1 hb2; have e2' := keep_cell d2 hb2; have e3 := keep_cell d3 hb2; have e4 := keep_cell d4 hb2
      have HB2 := hide (Below.next HB1.out hb2)
      clear hb2 d0 d1 d2 d3 d4
      go_wp2_with fail
      refine (HW.out _ _ HB2.out).mono ?_
      rintro e w3 ⟨rfl, hb3⟩
      have HB3 := hide (Below.next HB2.out hb3)
      clear hb3 e0 e1 e2' e3 e4
      go_wp2
      go_ret
      exact ⟨rfl, HB3.out⟩

set_option maxRecDepth 100000 in
theorem lifted_RankWeight (os : Os) (started : os.Started) (H : Type) (enc : TypeId × Value → H) :
    ReturnsInHanded {} Try.checked os 5 .any (Rows.rankWeightSpec.pre6 enc Try.prog Try.f5 Rows.rankWeightRow.domain false) (Rows.rankWeightSpec.post enc Try.prog Try.f5 false true false false) := by
  refine returnsInHanded_of_change_sized (C := Try.checked) own started (by kernel_rfl) Try.func5
    (ChangeSpec.witness6 (enc := enc) (C := Try.checked) false ⟨#[], #[.agg #[.int .i64 0, .slice none 0 0, .slice none 0 0, .int .i64 0, .int .i64 0], .int .i64 0, .int .i64 0], []⟩ 8 (by kernel_rfl) (by kernel_rfl) (by kernel_rfl) (by kernel_rfl)) ?_
  intro W base args ds gs before hval0 hW hcnd hsz0  _
  have hsz : (DataW.weightsEach Try.prog (Try.f5.params.toList ++ Rows.rankWeightSpec.plain.varTypes Try.prog) (ds ++ gs)).all (· ≤ reachBytes) = true := hsz0
  have hval : ∀ (j : Nat) t v, Try.f5.params[j]? = some t → args[j]? = some v → Value.okWide Try.prog W .any base t v := hval0
  have hW' := hW
  obtain ⟨p, q, hA0, hV, rfl, hfz, hnd⟩ := hW
  have hA : DataW.TrodAll enc Try.prog W 0 (fun _ => true) true Try.f5.params.toList args.toList ds p := hA0
  rw [Try.params5] at hA hval hsz
  obtain ⟨v0, vs0, d0, ds0, p0, q0, hargs, rfl, rfl, h0, r0⟩ := trodAll_cons hA
  obtain ⟨v1, vs1, d1, ds1, p1, q1, rfl, rfl, rfl, h1, r1⟩ := trodAll_cons r0
  obtain ⟨v2, vs2, d2, ds2, p2, q2, rfl, rfl, rfl, h2, r2⟩ := trodAll_cons r1
  obtain ⟨rfl, rfl, rfl⟩ := trodAll_nil r2
  obtain rfl : args = #[v0, v1, v2] := by cases args; simp_all
  obtain ⟨rfl, rfl⟩ := trodVars_none hV
  have k0 := h0
  have lt0 : ∀ x ∈ p0, x.block < W.heap.size := by obtain ⟨m, hm⟩ := k0; exact DataW.trod_lt m _ _ _ hm
  obtain ⟨tv0, lv0, x0, rfl, rk0, ri0⟩ := open_rank (hval 0 26 v0 rfl rfl) h0
  have k1 := h1
  have lt1 : ∀ x ∈ p1, x.block < W.heap.size := by obtain ⟨m, hm⟩ := k1; exact DataW.trod_lt m _ _ _ hm
  obtain ⟨a1, rfl, rfl, rfl, w1⟩ := open_int Try.underlying2 (hval 1 2 v1 rfl rfl) h1
  have b1 := bounds_i64 w1
  have k2 := h2
  have lt2 : ∀ x ∈ p2, x.block < W.heap.size := by obtain ⟨m, hm⟩ := k2; exact DataW.trod_lt m _ _ _ hm
  obtain ⟨a2, rfl, rfl, rfl, w2⟩ := open_int Try.underlying2 (hval 2 2 v2 rfl rfl) h2
  have b2 := bounds_i64 w2
  clear hA0 hval0
  refine (walk_RankWeight tv0 lv0 x0 a1 a2 W rk0 ri0 b1.1 b1.2 b2.1 b2.2).mono fun e W' ⟨he, bel⟩ => ?_
  subst he
  exact ⟨_, rfl, _, _, _, [], _, [], hW', trodAll_mk1 (shut_bool Try.underlying4 _), (trodAll_cons_mk (Below.trod laidOut (by kernel_rfl) (of_decide_eq_true (by kernel_rfl)) k0 bel lt0) (trodAll_cons_mk (Below.trod laidOut (by kernel_rfl) (of_decide_eq_true (by kernel_rfl)) k1 bel lt1) (trodAll_cons_mk (Below.trod laidOut (by kernel_rfl) (of_decide_eq_true (by kernel_rfl)) k2 bel lt2) trodAll_mk0))), rfl, bel.frame _, fun h => by cases h⟩

theorem proved_RankWeight : Rows.RankWeightSaid :=
  OpenClaim.holds_of_wide 5 Try.f5 rfl rfl rfl rfl rfl rfl rfl ⟨rfl, rfl, rfl, rfl, rfl⟩ rfl rfl rfl rfl rfl (by kernel_rfl) Try.func5 (by kernel_rfl)
    (of_decide_eq_true (by kernel_rfl)) (by unfold Func.isWrapper; first | (rw [if_pos (by decide +kernel)]; kernel_rfl) | (rw [if_neg (by decide +kernel)]; exact ⟨rfl, rfl⟩))
    (fun os started H enc _ => lifted_RankWeight os started H enc)
#print axioms proved_RankWeight
end Go.Proofs.Ytlndbmenaaiogab
