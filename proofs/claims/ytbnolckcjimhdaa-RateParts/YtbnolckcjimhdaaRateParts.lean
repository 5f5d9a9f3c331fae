/- RateParts holds: at all samples and places the law answers true and changes nothing that was there. -/
import Derived.Test.YtbnolckcjimhdaaRateG
import Derived.Test.YtbnolckcjimhdaaGood
namespace Go.Proofs.Ytbnolckcjimhdaa
open Go.ChangeShapes Go.WideShapes Go.ChangeAt Go.RowKit
set_option linter.unusedVariables false
theorem P.chkC_part {l m : List (Int × Int)} (h : P.chkC l = 0) (hs : m.Sublist l) : P.chkC m = 0 := by
  obtain ⟨h1, h2⟩ := P.chkC_zero h
  obtain ⟨h3, h4⟩ := P.chk_zero h1
  exact P.chkC_ok (P.chk_ok (Nat.le_trans hs.length_le h3) (List.Pairwise.sublist hs h4)) (P.neg_sub h2 fun s hh => hs.subset hh)
set_option maxHeartbeats 1000000 in
theorem walk_RateParts (v : Value) (l : List (Int × Int)) (k : Int) (w : World) (hr : RowS w v l) (hi : P.I64s l) (_ : l.length * 16 ≤ 140737488351232) (_ : -9223372036854775808 ≤ k) (_ : k ≤ 9223372036854775807) :
    Calls Try.prog 4 #[v, .int .i64 k] w fun e w' => e = .returned (.bool true) ∧ Below w.heap.size w w' := by
  have HG := hide (fun (w' : World) (hb : Below w.heap.size w w') => grown_any v l w' (hr.below hb (Nat.le_refl _)) hi)
  by_cases hc : P.chkC l = 0
  · have hc0 := hc
    rw [grownT_ok hc] at HG
    by_cases hk : 0 ≤ k ∧ k < (l.length : Int)
    · obtain ⟨j, rfl⟩ : ∃ j : Nat, k = j := ⟨k.toNat, by omega⟩
      have hj : j < l.length := by omega
      have s1 := List.take_sublist (j + 1) l
      have s2 := List.drop_sublist j l
      have i1 : P.I64s (l.take (j + 1)) := fun x hx => hi x (s1.subset hx)
      have i2 : P.I64s (l.drop j) := fun x hx => hi x (s2.subset hx)
      have hA := P.gr_parts hj
      have hB := P.ae_parts hj
      have hAl := P.ane_bound l (l.length - 1)
      have HM := hide (fun v' w' (h : RowS w' v' (l.take (j + 1))) => grown_any v' _ w' h i1)
      have HO := hide (fun v' w' (h : RowS w' v' (l.drop j)) => grown_any v' _ w' h i2)
      rw [grownT_ok (P.chkC_part hc s1)] at HM
      rw [grownT_ok (P.chkC_part hc s2)] at HO
      have b1 := P.gr_lo (l.take (j + 1))
      have b2 := P.gr_hi (l.take (j + 1))
      have b3 := P.gr_lo (l.drop j)
      have b4 := P.gr_hi (l.drop j)
      have b5 := P.ane_bound (l.take (j + 1)) ((l.take (j + 1)).length - 1)
      have b6 := P.ane_bound (l.drop j) ((l.drop j).length - 1)
      have l1 : (l.take (j + 1)).length ≤ l.length := s1.length_le
      have l2 : (l.drop j).length ≤ l.length := s2.length_le
      have hl := (P.chk_zero (P.chkC_zero hc).1).1
      change 0 ≤ P.ae (l.take (j + 1)) ∧ P.ae (l.take (j + 1)) ≤ _ at b5
      change 0 ≤ P.ae (l.drop j) ∧ P.ae (l.drop j) ≤ _ at b6
      have HT : Hid (∀ (w' : World) b off cap, RowS w' (.slice (some ⟨b, off, none⟩) l.length cap) l → RowS w' (.slice (some ⟨b, off, none⟩) (j + 1) cap) (l.take (j + 1)) ∧ RowS w' (.slice (some ⟨b, off + j * 2, none⟩) (l.length - j) (cap - j)) (l.drop j)) := fun w' b off cap h => by
        have p1 := h.part 0 (j + 1) (by omega) off cap (by simp) (by simp)
        have p2 := h.part j (l.length - j) (by omega) (off + j * 2) (cap - j) rfl rfl
        rw [List.drop_zero] at p1
        rw [List.take_of_length_le (by simp)] at p2
        exact ⟨p1, p2⟩
      have HR := hide (fun (w' : World) (hb : Below w.heap.size w w') => hr.below hb (Nat.le_refl _))
      generalize P.gr (l.take (j + 1)) = m at *
      generalize P.gr (l.drop j) = o at *
      generalize P.ae (l.take (j + 1)) = am at *
      generalize P.ae (l.drop j) = ao at *
      generalize P.gr l = n at *
      generalize P.ae l = an at *
      have b7 : am ≤ 1000 := by omega
      have b8 : ao ≤ 1000 := by omega
      have b9 := b5.1
      have b10 := b6.1
      have s5 : (n == IntKind.u64.wrap (m + o)) = true := by rw [beq_iff_eq, IntKind.wrap_u64]; exact hA
      have s6 : (an == am + ao) = true := by rw [beq_iff_eq]; exact hB
      clear hA hB s1 s2 i1 i2 hc hc0 b5 b6 hAl
      obtain ⟨a, cap, rfl, ⟨hlc, hmax, hnn⟩, hcase⟩ := hr
      unfold maxLen at hmax
      rcases hcase with h | ⟨b, off, rfl, hbs, _⟩
      · rw [h] at hj; simp at hj
      have d1 : decide ((j : Int) < 0) = false := by simp
      have d2 : decide ((l.length : Int) ≤ (j : Int)) = false := by simp; omega
      have hcb : ¬ cap = j := by omega
      go_enter Try.func4, Try.ntmps4
      go_wp2_with (go_at_call 13; go_must (refine (rates_any _).mono ?_); rintro e w1 ⟨rfl, hb⟩)
      refine (HG.out _ hb).mono ?_
      rintro e w2 ⟨rfl, hb2⟩
      replace hb := Below.next hb hb2
      clear hb2
      go_wp2_with fail
      refine (HM.out _ _ (HT.out _ _ _ _ (HR.out _ hb)).1).mono ?_
      rintro e w3 ⟨rfl, hb3⟩
      replace hb := Below.next hb hb3
      clear hb3
      go_wp2_with fail
      refine (HO.out _ _ (HT.out _ _ _ _ (HR.out _ hb)).2).mono ?_
      rintro e w4 ⟨rfl, hb4⟩
      replace hb := Below.next hb hb4
      clear hb4
      go_wp2_with (go_at_call 14; go_must (refine (good_zeros _ 2 _ (row_two_zeros _ _)).mono ?_); rintro e w6 ⟨rfl, rfl⟩; replace hb := below_alloc hb (.cells #[.int .i64 0, .int .i64 0] 24))
      go_ret
      exact ⟨rfl, hb⟩
    · have hcase : decide (k < 0) = true ∨ (decide (k < 0) = false ∧ decide ((l.length : Int) ≤ k) = true) := by
        simp only [decide_eq_true_eq, decide_eq_false_iff_not]; omega
      obtain ⟨a, cap, rfl⟩ := hr.shp
      clear hr hi hc hc0 hk
      generalize P.gr l = n at *
      generalize P.ae l = an at *
      rcases hcase with d1 | ⟨d1, d2⟩
      all_goals
        go_enter Try.func4, Try.ntmps4
        go_wp2_with (first
          | (go_at_call 13; go_must (refine (rates_any _).mono ?_); rintro e w1 ⟨rfl, hb⟩)
          | (go_at_call 8; go_must (refine (HG.out _ (by assumption)).mono ?_); rintro e w2 ⟨rfl, hb2⟩; replace hb := Below.next hb hb2))
        go_ret
        exact ⟨rfl, hb⟩
  · rw [grownT_bad hc] at HG
    obtain ⟨a, cap, rfl⟩ := hr.shp
    generalize P.chkC l = c at *
    have t1 : (c != 0) = true := by simpa using hc
    have t2 : (c == 0) = false := by simpa using hc
    clear hc hr hi
    go_enter Try.func4, Try.ntmps4
    go_wp2_with (first
      | (go_at_call 13; go_must (refine (rates_any _).mono ?_); rintro e w1 ⟨rfl, hb⟩)
      | (go_at_call 8; go_must (refine (HG.out _ (by assumption)).mono ?_); rintro e w2 ⟨rfl, hb2⟩; replace hb := Below.next hb hb2))
    go_ret
    exact ⟨rfl, hb⟩

set_option maxRecDepth 100000 in
theorem lifted_RateParts (os : Os) (started : os.Started) (H : Type) (enc : TypeId × Value → H) :
    ReturnsInHanded {} Try.checked os 4 .any (Rows.ratePartsSpec.pre6 enc Try.prog Try.f4 Rows.ratePartsRow.domain false) (Rows.ratePartsSpec.post enc Try.prog Try.f4 false true false false) := by
  refine returnsInHanded_of_change_sized (C := Try.checked) own started (by kernel_rfl) Try.func4
    (ChangeSpec.witness6 (enc := enc) (C := Try.checked) false ⟨#[], #[.slice none 0 0, .int .i64 0], []⟩ 8 (by kernel_rfl) (by kernel_rfl) (by kernel_rfl) (by kernel_rfl)) ?_
  intro W base args ds gs before hval0 hW hcnd hsz0  _
  have hsz : (DataW.weightsEach Try.prog (Try.f4.params.toList ++ Rows.ratePartsSpec.plain.varTypes Try.prog) (ds ++ gs)).all (· ≤ reachBytes) = true := hsz0
  have hval : ∀ (j : Nat) t v, Try.f4.params[j]? = some t → args[j]? = some v → Value.okWide Try.prog W .any base t v := hval0
  have hW' := hW
  obtain ⟨p, q, hA0, hV, rfl, hfz, hnd⟩ := hW
  have hA : DataW.TrodAll enc Try.prog W 0 (fun _ => true) true Try.f4.params.toList args.toList ds p := hA0
  rw [Try.params4] at hA hval hsz
  obtain ⟨v0, vs0, d0, ds0, p0, q0, hargs, rfl, rfl, h0, r0⟩ := trodAll_cons hA
  obtain ⟨v1, vs1, d1, ds1, p1, q1, rfl, rfl, rfl, h1, r1⟩ := trodAll_cons r0
  obtain ⟨rfl, rfl, rfl⟩ := trodAll_nil r1
  obtain rfl : args = #[v0, v1] := by cases args; simp_all
  obtain ⟨rfl, rfl⟩ := trodVars_none hV
  have k0 := h0
  have lt0 : ∀ x ∈ p0, x.block < W.heap.size := by obtain ⟨m, hm⟩ := k0; exact DataW.trod_lt m _ _ _ hm
  obtain ⟨s0, len0, cap0, rfl⟩ := okWide_slice Try.underlying22 (hval 0 22 v0 rfl rfl)
  obtain ⟨l0, row0, wf0, sh0⟩ := open_samples h0
  have rc0 := row_reachN hsz (j := 0) (t := 22) rfl rfl Try.underlying22 sh0
  rw [bytes37] at rc0
  have k1 := h1
  have lt1 : ∀ x ∈ p1, x.block < W.heap.size := by obtain ⟨m, hm⟩ := k1; exact DataW.trod_lt m _ _ _ hm
  obtain ⟨a1, rfl, rfl, rfl, w1⟩ := open_int Try.underlying3 (hval 1 3 v1 rfl rfl) h1
  have b1 := bounds_i64 w1
  clear hA0 hval0
  refine (walk_RateParts (.slice s0 len0 cap0) l0 a1 W row0 wf0 rc0 b1.1 b1.2).mono fun e W' ⟨he, bel⟩ => ?_
  subst he
  exact ⟨_, rfl, _, _, _, [], _, [], hW', trodAll_mk1 (shut_bool Try.underlying4 _), (trodAll_cons_mk (Below.trod laidOut (by kernel_rfl) (of_decide_eq_true (by kernel_rfl)) k0 bel lt0) (trodAll_cons_mk (Below.trod laidOut (by kernel_rfl) (of_decide_eq_true (by kernel_rfl)) k1 bel lt1) trodAll_mk0)), rfl, bel.frame _, fun h => by cases h⟩

theorem proved_RateParts : Rows.RatePartsSaid :=
  OpenClaim.holds_of_wide 4 Try.f4 rfl rfl rfl rfl rfl rfl rfl ⟨rfl, rfl, rfl, rfl, rfl⟩ rfl rfl rfl rfl rfl (by kernel_rfl) Try.func4 (by kernel_rfl)
    (of_decide_eq_true (by kernel_rfl)) (by unfold Func.isWrapper; first | (rw [if_pos (by decide +kernel)]; kernel_rfl) | (rw [if_neg (by decide +kernel)]; exact ⟨rfl, rfl⟩))
    (fun os started H enc _ => lifted_RateParts os started H enc)
#print axioms proved_RateParts

end Go.Proofs.Ytbnolckcjimhdaa
