/- RateWithin holds: at all samples and times the law answers true and changes nothing that was there. -/
import Derived.Test.YtbnolckcjimhdaaRateG
namespace Go.Proofs.Ytbnolckcjimhdaa
open Go.ChangeShapes Go.WideShapes Go.ChangeAt Go.RowKit
set_option linter.unusedVariables false
theorem walk_RateWithin (v : Value) (l : List (Int × Int)) (f t u : Int) (w : World) (hr : RowS w v l) (hi : P.I64s l) (_ : l.length * 16 ≤ 140737488351232) (_ : -9223372036854775808 ≤ f) (_ : f ≤ 9223372036854775807) (_ : -9223372036854775808 ≤ t) (_ : t ≤ 9223372036854775807) (_ : -9223372036854775808 ≤ u) (_ : u ≤ 9223372036854775807) :
    Calls Try.prog 7 #[v, .int .i64 f, .int .i64 t, .int .i64 u] w fun e w' => e = .returned (.bool true) ∧ Below w.heap.size w w' := by
  have HP := hide (fun (w' : World) (hb : Below w.heap.size w w') => per_any v l f t u w' (hr.below hb (Nat.le_refl _)) hi)
  by_cases hk : P.chk l = 0
  · have HR := hide (fun (w' : World) (hb : Below w.heap.size w w') => range_ok v l f t w' (hr.below hb (Nat.le_refl _)) hk)
    have HQ := hide (fun v' w' (h : RowS w' v' (P.btw l f t)) => per_any v' _ f t u w' h (P.btw_i64 hi f t))
    obtain ⟨a, cap, rfl⟩ := hr.shp
    by_cases hc : P.chkC l = 0
    · have hE := P.perE_btw hc f t u
      have hV := P.perV_btw hc f t u
      have h6 : P.perE l f t u ≠ 6 := by
        unfold P.perE
        rw [if_neg (by simp [hc])]
        split
        · decide
        · split
          · decide
          · split <;> decide
      simp only [perT] at HP HQ
      rw [hE, hV] at HQ
      generalize P.perE l f t u = e1 at *
      generalize P.perV l f t u = n1 at *
      generalize P.btw l f t = X at *
      have s1 : (e1 == 6) = false := by rw [beq_eq_false_iff_ne]; exact h6
      have s2 : (e1 == e1) = true := by simp
      have s3 : (n1 == n1) = true := by simp
      clear hr hi hk hc hE hV h6
      go_enter Try.func7, Try.ntmps7
      go_wp2_with (go_at_call 13; go_must (refine (rates_any _).mono ?_); rintro e w1 ⟨rfl, hb⟩)
      refine (HP.out _ hb).mono ?_
      rintro e w2 ⟨rfl, hb2⟩
      replace hb := Below.next hb hb2
      clear hb2
      go_wp2_with fail
      refine (HR.out _ hb).mono ?_
      rintro e w3 ⟨v', rfl, hown, hb3⟩
      obtain ⟨av, cv, hv⟩ := hown.shp
      rw [hv] at hown ⊢
      replace hb := Below.next hb hb3
      clear hb3 hv
      go_wp2_with fail
      refine (HQ.out _ _ hown.row).mono ?_
      rintro e w4 ⟨rfl, hb4⟩
      replace hb := Below.next hb hb4
      clear hb4
      go_wp2
      go_ret
      exact ⟨rfl, hb⟩
    · have hE : P.perE l f t u = 6 := by
        unfold P.perE
        rw [if_pos hc]
        unfold P.chkC at hc ⊢
        rw [if_neg (by simp [hk])] at hc ⊢
        split at hc
        · rename_i h; rw [if_pos h]
        · exact absurd rfl hc
      have hV : P.perV l f t u = 0 := by unfold P.perV; rw [hE, if_pos (by decide)]
      simp only [perT] at HP HQ
      rw [hE, hV] at HP
      generalize P.perE (P.btw l f t) f t u = e1 at *
      generalize P.perV (P.btw l f t) f t u = n1 at *
      generalize P.btw l f t = X at *
      clear hr hi hk hc hE hV
      go_enter Try.func7, Try.ntmps7
      go_wp2_with (go_at_call 13; go_must (refine (rates_any _).mono ?_); rintro e w1 ⟨rfl, hb⟩)
      refine (HP.out _ hb).mono ?_
      rintro e w2 ⟨rfl, hb2⟩
      replace hb := Below.next hb hb2
      clear hb2
      go_wp2_with fail
      refine (HR.out _ hb).mono ?_
      rintro e w3 ⟨v', rfl, hown, hb3⟩
      obtain ⟨av, cv, hv⟩ := hown.shp
      rw [hv] at hown ⊢
      replace hb := Below.next hb hb3
      clear hb3 hv
      go_wp2_with fail
      refine (HQ.out _ _ hown.row).mono ?_
      rintro e w4 ⟨rfl, hb4⟩
      replace hb := Below.next hb hb4
      clear hb4
      go_wp2
      go_ret
      exact ⟨rfl, hb⟩
  · have HR := hide (fun (w' : World) (hb : Below w.heap.size w w') => range_bad v l f t w' (hr.below hb (Nat.le_refl _)) hk)
    have HQ := hide (fun w' => per_any (.slice none 0 0) [] f t u w' (RowS.nil w') (by intro s hs; cases hs))
    obtain ⟨a, cap, rfl⟩ := hr.shp
    have hE : P.perE l f t u = P.chk l := by unfold P.perE; rw [P.chkC_bad hk, if_pos hk]
    have hV : P.perV l f t u = 0 := by unfold P.perV; rw [hE, if_pos hk]
    have h6 : P.chk l ≠ 6 := by have := P.chk_cases l; omega
    simp only [perT] at HP HQ
    rw [hE, hV] at HP
    generalize P.perE [] f t u = e1 at *
    generalize P.perV [] f t u = n1 at *
    generalize P.chk l = c at *
    have s1 : (c == 6) = false := by rw [beq_eq_false_iff_ne]; exact h6
    have s2 : (c != 0) = true := by simpa using hk
    clear hr hi hk hE hV h6
    go_enter Try.func7, Try.ntmps7
    go_wp2_with (go_at_call 13; go_must (refine (rates_any _).mono ?_); rintro e w1 ⟨rfl, hb⟩)
    refine (HP.out _ hb).mono ?_
    rintro e w2 ⟨rfl, hb2⟩
    replace hb := Below.next hb hb2
    clear hb2
    go_wp2_with fail
    refine (HR.out _ hb).mono ?_
    rintro e w3 ⟨rfl, hb3⟩
    replace hb := Below.next hb hb3
    clear hb3
    go_wp2_with fail
    refine (HQ.out _).mono ?_
    rintro e w4 ⟨rfl, hb4⟩
    replace hb := Below.next hb hb4
    clear hb4
    go_wp2
    go_ret
    exact ⟨rfl, hb⟩

set_option maxRecDepth 100000 in
theorem lifted_RateWithin (os : Os) (started : os.Started) (H : Type) (enc : TypeId × Value → H) :
    ReturnsInHanded {} Try.checked os 7 .any (Rows.rateWithinSpec.pre6 enc Try.prog Try.f7 Rows.rateWithinRow.domain false) (Rows.rateWithinSpec.post enc Try.prog Try.f7 false true false false) := by
  refine returnsInHanded_of_change_sized (C := Try.checked) own started (by kernel_rfl) Try.func7
    (ChangeSpec.witness6 (enc := enc) (C := Try.checked) false ⟨#[], #[.slice none 0 0, .int .i64 0, .int .i64 0, .int .i64 0], []⟩ 8 (by kernel_rfl) (by kernel_rfl) (by kernel_rfl) (by kernel_rfl)) ?_
  intro W base args ds gs before hval0 hW hcnd hsz0  _
  have hsz : (DataW.weightsEach Try.prog (Try.f7.params.toList ++ Rows.rateWithinSpec.plain.varTypes Try.prog) (ds ++ gs)).all (· ≤ reachBytes) = true := hsz0
  have hval : ∀ (j : Nat) t v, Try.f7.params[j]? = some t → args[j]? = some v → Value.okWide Try.prog W .any base t v := hval0
  have hW' := hW
  obtain ⟨p, q, hA0, hV, rfl, hfz, hnd⟩ := hW
  have hA : DataW.TrodAll enc Try.prog W 0 (fun _ => true) true Try.f7.params.toList args.toList ds p := hA0
  rw [Try.params7] at hA hval hsz
  obtain ⟨v0, vs0, d0, ds0, p0, q0, hargs, rfl, rfl, h0, r0⟩ := trodAll_cons hA
  obtain ⟨v1, vs1, d1, ds1, p1, q1, rfl, rfl, rfl, h1, r1⟩ := trodAll_cons r0
  obtain ⟨v2, vs2, d2, ds2, p2, q2, rfl, rfl, rfl, h2, r2⟩ := trodAll_cons r1
  obtain ⟨v3, vs3, d3, ds3, p3, q3, rfl, rfl, rfl, h3, r3⟩ := trodAll_cons r2
  obtain ⟨rfl, rfl, rfl⟩ := trodAll_nil r3
  obtain rfl : args = #[v0, v1, v2, v3] := by cases args; simp_all
  obtain ⟨rfl, rfl⟩ := trodVars_none hV
  have k0 := h0
  have lt0 : ∀ x ∈ p0, x.block < W.heap.size := by obtain ⟨m, hm⟩ := k0; exact DataW.trod_lt m _ _ _ hm
  obtain ⟨s0, len0, cap0, rfl⟩ := okWide_slice Try.underlying22 (hval 0 22 v0 rfl rfl)
  obtain ⟨l0, row0, wf0, sh0⟩ := open_samples h0
  have rc0 := row_reachN hsz (j := 0) (t := 22) rfl rfl Try.underlying22 sh0
  rw [bytes37] at rc0
  have k1 := h1
  have lt1 : ∀ x ∈ p1, x.block < W.heap.size := by obtain ⟨m, hm⟩ := k1; exact DataW.trod_lt m _ _ _ hm
  obtain ⟨a1, rfl, rfl, rfl, w1⟩ := open_int Try.underlying2 (hval 1 2 v1 rfl rfl) h1
  have b1 := bounds_i64 w1
  have k2 := h2
  have lt2 : ∀ x ∈ p2, x.block < W.heap.size := by obtain ⟨m, hm⟩ := k2; exact DataW.trod_lt m _ _ _ hm
  obtain ⟨a2, rfl, rfl, rfl, w2⟩ := open_int Try.underlying2 (hval 2 2 v2 rfl rfl) h2
  have b2 := bounds_i64 w2
  have k3 := h3
  have lt3 : ∀ x ∈ p3, x.block < W.heap.size := by obtain ⟨m, hm⟩ := k3; exact DataW.trod_lt m _ _ _ hm
  obtain ⟨a3, rfl, rfl, rfl, w3⟩ := open_int Try.underlying2 (hval 3 2 v3 rfl rfl) h3
  have b3 := bounds_i64 w3
  clear hA0 hval0
  refine (walk_RateWithin (.slice s0 len0 cap0) l0 a1 a2 a3 W row0 wf0 rc0 b1.1 b1.2 b2.1 b2.2 b3.1 b3.2).mono fun e W' ⟨he, bel⟩ => ?_
  subst he
  exact ⟨_, rfl, _, _, _, [], _, [], hW', trodAll_mk1 (shut_bool Try.underlying4 _), (trodAll_cons_mk (Below.trod laidOut (by kernel_rfl) (of_decide_eq_true (by kernel_rfl)) k0 bel lt0) (trodAll_cons_mk (Below.trod laidOut (by kernel_rfl) (of_decide_eq_true (by kernel_rfl)) k1 bel lt1) (trodAll_cons_mk (Below.trod laidOut (by kernel_rfl) (of_decide_eq_true (by kernel_rfl)) k2 bel lt2) (trodAll_cons_mk (Below.trod laidOut (by kernel_rfl) (of_decide_eq_true (by kernel_rfl)) k3 bel lt3) trodAll_mk0)))), rfl, bel.frame _, fun h => by cases h⟩

theorem proved_RateWithin : Rows.RateWithinSaid :=
  OpenClaim.holds_of_wide 7 Try.f7 rfl rfl rfl rfl rfl rfl rfl ⟨rfl, rfl, rfl, rfl, rfl⟩ rfl rfl rfl rfl rfl (by kernel_rfl) Try.func7 (by kernel_rfl)
    (of_decide_eq_true (by kernel_rfl)) (by unfold Func.isWrapper; first | (rw [if_pos (by decide +kernel)]; kernel_rfl) | (rw [if_neg (by decide +kernel)]; exact ⟨rfl, rfl⟩))
    (fun os started H enc _ => lifted_RateWithin os started H enc)
#print axioms proved_RateWithin

end Go.Proofs.Ytbnolckcjimhdaa
