/- RateSteady holds: at all samples the law answers true and changes nothing that was there. -/
import Derived.Test.YtbnolckcjimhdaaRateG
namespace Go.Proofs.Ytbnolckcjimhdaa
open Go.ChangeShapes Go.WideShapes Go.ChangeAt Go.RowKit
set_option linter.unusedVariables false
theorem walk_RateSteady (v : Value) (l : List (Int × Int)) (w : World) (hr : RowS w v l) (hi : P.I64s l) (_ : l.length * 16 ≤ 140737488351232) :
    Calls Try.prog 5 #[v] w fun e w' => e = .returned (.bool true) ∧ Below w.heap.size w w' := by
  have HG := hide (fun (w' : World) (hb : Below w.heap.size w w') => grown_any v l w' (hr.below hb (Nat.le_refl _)) hi)
  by_cases hc : P.chkC l = 0
  · rw [grownT_ok hc] at HG
    by_cases h0 : l.length = 0
    · obtain rfl : l = [] := List.length_eq_zero_iff.1 h0
      rw [show P.gr [] = 0 by rfl, show P.ae [] = 0 by rfl] at HG
      obtain ⟨a, cap, rfl⟩ := hr.shp
      clear hr hc hi h0
      simp only [List.length_nil] at HG ⊢
      go_enter Try.func5, Try.ntmps5
      go_wp2_with (first
        | (go_at_call 13; go_must (refine (rates_any _).mono ?_); rintro e w1 ⟨rfl, hb⟩)
        | (go_at_call 8; go_must (refine (HG.out _ (by assumption)).mono ?_); rintro e w2 ⟨rfl, hb2⟩; replace hb := Below.next hb hb2))
      go_ret
      exact ⟨rfl, hb⟩
    · have hab := P.ane_bound l (l.length - 1)
      have hst := P.gr_steady (l := l)
      have hz := hide (P.neg_at (P.chkC_zero hc).2)
      have hix := hide hi
      change 0 ≤ P.ae l ∧ P.ae l ≤ _ at hab
      obtain ⟨m, hm⟩ : ∃ m, m + 1 = l.length := ⟨l.length - 1, by omega⟩
      rw [show l.length - 1 = m by omega] at hab hst
      obtain ⟨a, cap, rfl, ⟨hlc, hmax, hnn⟩, hcase⟩ := hr
      unfold maxLen at hmax
      generalize P.ae l = x at *
      have hg := P.gr_lo l
      have hg2 := P.gr_hi l
      generalize P.gr l = g at *
      clear hc
      have t0 : ((l.length : Int) == 0) = false := by rw [beq_eq_false_iff_ne]; omega
      by_cases hx : 0 < x
      · clear hst hcase hz hix hi
        have t1 : x < (l.length : Int) := by omega
        go_enter Try.func5, Try.ntmps5
        go_wp2_with (first
          | (go_at_call 13; go_must (refine (rates_any _).mono ?_); rintro e w1 ⟨rfl, hb⟩)
          | (go_at_call 8; go_must (refine (HG.out _ (by assumption)).mono ?_); rintro e w2 ⟨rfl, hb2⟩; replace hb := Below.next hb hb2))
        go_ret
        exact ⟨rfl, hb⟩
      · obtain rfl : x = 0 := by omega
        rcases hcase with h | ⟨b, off, rfl, hbs, hcell⟩
        · rw [h] at h0; simp at h0
        have c0 := (hcell 0 (by omega)).2
        have c1 := (hcell m (by omega)).2
        have p0 := hz.out 0
        have p1 := hz.out m
        have q0 := (hix.out.at 0).2.2
        have q1 := (hix.out.at m).2.2
        have hst := hst rfl
        clear hcell hz hix hi
        generalize (l.getD 0 (0, 0)).2 = y0 at *
        generalize (l.getD m (0, 0)).2 = y1 at *
        have HST := hide hst
        clear hst hx hab
        have ei : IntKind.i64.wrap ((l.length : Int) - 1) = (m : Int) := by rw [IntKind.wrap_i64]; omega
        have m0 : (0 : Int) ≤ (m : Int) := by omega
        have m1 : (m : Int) < (l.length : Int) := by omega
        have m2 : (0 : Int) < (l.length : Int) := by omega
        rw [Nat.zero_mul, Nat.add_zero] at c0
        go_enter Try.func5, Try.ntmps5
        go_wp2_with (first
          | (go_at_call 13; go_must (refine (rates_any _).mono ?_); rintro e w1 ⟨rfl, hb⟩)
          | (go_at_call 8; go_must (refine (HG.out _ (by assumption)).mono ?_); rintro e w2 ⟨rfl, hb2⟩; replace hb := Below.next hb hb2))
        replace c0 := (hb.cell (p := ⟨b, off + 1, none⟩) hbs).trans c0
        replace c1 := (hb.cell (p := ⟨b, off + m * 2 + 1, none⟩) hbs).trans c1
        go_quiet (fail)
        go_wp2
        have hh : ((y1 - y0) % 18446744073709551616 == IntKind.u64.wrap (y1 - y0)) = true := by rw [IntKind.wrap_u64]; simp
        go_ret
        exact ⟨congrArg (fun b => Ending.returned (.bool b)) hh, below_dn hb _⟩
  · rw [grownT_bad hc] at HG
    obtain ⟨a, cap, rfl⟩ := hr.shp
    generalize P.chkC l = c at *
    have t1 : (c != 0) = true := by simpa using hc
    clear hc hr hi
    go_enter Try.func5, Try.ntmps5
    go_wp2_with (first
      | (go_at_call 13; go_must (refine (rates_any _).mono ?_); rintro e w1 ⟨rfl, hb⟩)
      | (go_at_call 8; go_must (refine (HG.out _ (by assumption)).mono ?_); rintro e w2 ⟨rfl, hb2⟩; replace hb := Below.next hb hb2))
    go_ret
    exact ⟨rfl, hb⟩

set_option maxRecDepth 100000 in
theorem lifted_RateSteady (os : Os) (started : os.Started) (H : Type) (enc : TypeId × Value → H) :
    ReturnsInHanded {} Try.checked os 5 .any (Rows.rateSteadySpec.pre6 enc Try.prog Try.f5 Rows.rateSteadyRow.domain false) (Rows.rateSteadySpec.post enc Try.prog Try.f5 false true false false) := by
  refine returnsInHanded_of_change_sized (C := Try.checked) own started (by kernel_rfl) Try.func5
    (ChangeSpec.witness6 (enc := enc) (C := Try.checked) false ⟨#[], #[.slice none 0 0], []⟩ 8 (by kernel_rfl) (by kernel_rfl) (by kernel_rfl) (by kernel_rfl)) ?_
  intro W base args ds gs before hval0 hW hcnd hsz0  _
  have hsz : (DataW.weightsEach Try.prog (Try.f5.params.toList ++ Rows.rateSteadySpec.plain.varTypes Try.prog) (ds ++ gs)).all (· ≤ reachBytes) = true := hsz0
  have hval : ∀ (j : Nat) t v, Try.f5.params[j]? = some t → args[j]? = some v → Value.okWide Try.prog W .any base t v := hval0
  have hW' := hW
  obtain ⟨p, q, hA0, hV, rfl, hfz, hnd⟩ := hW
  have hA : DataW.TrodAll enc Try.prog W 0 (fun _ => true) true Try.f5.params.toList args.toList ds p := hA0
  rw [Try.params5] at hA hval hsz
  obtain ⟨v0, vs0, d0, ds0, p0, q0, hargs, rfl, rfl, h0, r0⟩ := trodAll_cons hA
  obtain ⟨rfl, rfl, rfl⟩ := trodAll_nil r0
  obtain rfl : args = #[v0] := by cases args; simp_all
  obtain ⟨rfl, rfl⟩ := trodVars_none hV
  have k0 := h0
  have lt0 : ∀ x ∈ p0, x.block < W.heap.size := by obtain ⟨m, hm⟩ := k0; exact DataW.trod_lt m _ _ _ hm
  obtain ⟨s0, len0, cap0, rfl⟩ := okWide_slice Try.underlying22 (hval 0 22 v0 rfl rfl)
  obtain ⟨l0, row0, wf0, sh0⟩ := open_samples h0
  have rc0 := row_reachN hsz (j := 0) (t := 22) rfl rfl Try.underlying22 sh0
  rw [bytes37] at rc0
  clear hA0 hval0
  refine (walk_RateSteady (.slice s0 len0 cap0) l0 W row0 wf0 rc0).mono fun e W' ⟨he, bel⟩ => ?_
  subst he
  exact ⟨_, rfl, _, _, _, [], _, [], hW', trodAll_mk1 (shut_bool Try.underlying4 _), (trodAll_cons_mk (Below.trod laidOut (by kernel_rfl) (of_decide_eq_true (by kernel_rfl)) k0 bel lt0) trodAll_mk0), rfl, bel.frame _, fun h => by cases h⟩

theorem proved_RateSteady : Rows.RateSteadySaid :=
  OpenClaim.holds_of_wide 5 Try.f5 rfl rfl rfl rfl rfl rfl rfl ⟨rfl, rfl, rfl, rfl, rfl⟩ rfl rfl rfl rfl rfl (by kernel_rfl) Try.func5 (by kernel_rfl)
    (of_decide_eq_true (by kernel_rfl)) (by unfold Func.isWrapper; first | (rw [if_pos (by decide +kernel)]; kernel_rfl) | (rw [if_neg (by decide +kernel)]; exact ⟨rfl, rfl⟩))
    (fun os started H enc _ => lifted_RateSteady os started H enc)
#print axioms proved_RateSteady

end Go.Proofs.Ytbnolckcjimhdaa
