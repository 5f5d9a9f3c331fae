/- RollAgain holds: at all samples, widths and factors the law answers true and changes nothing that was there. -/
import Derived.Test.YtgfjhcjplhlonaaEqW
import Derived.Test.YtgfjhcjplhlonaaRlive
import Derived.Test.YtgfjhcjplhlonaaGood
namespace Go.Proofs.Ytgfjhcjplhlonaa
open Go.ChangeShapes Go.WideShapes Go.ChangeAt Go.RowKit
set_option linter.unusedVariables false
namespace P
theorem roerr_eq {l : List (Int × Int)} {w : Int} (h : chk l = 0) : roerr l w = rerr (ones l) w := (rout_roout h).2.symm
theorem roerr_zero {l : List (Int × Int)} {w : Int} (h : roerr l w = 0) : chk l = 0 ∧ 1 ≤ w ∧ w ≤ 1099511627776 ∧ far (ones l) = false ∧ roout l w = grp (beg w) (ones l) := by
  have h1 : chk l = 0 := by
    apply Classical.byContradiction
    intro hc
    unfold roerr at h
    rw [if_pos hc] at h
    exact hc h
  obtain ⟨a, b, c, _⟩ := rerr_zero (by rw [← roerr_eq h1]; exact h)
  exact ⟨h1, a, b, c, by unfold roout; rw [if_pos h]⟩
theorem rerr_ones {l : List (Int × Int)} {w : Int} (h : chk l = 0) (h1 : 1 ≤ w) (h2 : w ≤ 1099511627776) : rerr (ones l) w = if far (ones l) = true then 6 else 0 := by
  unfold rerr
  rw [if_neg (by omega), if_neg (by omega), crowd_ones _ (chk_zero h).1]
  simp
theorem roerr_same {l : List (Int × Int)} {v w : Int} (h1 : 1 ≤ v) (h2 : v ≤ 1099511627776) (h3 : 1 ≤ w) (h4 : w ≤ 1099511627776) : roerr l v = roerr l w := by
  by_cases h : chk l = 0
  · rw [roerr_eq h, roerr_eq h, rerr_ones h h1 h2, rerr_ones h h3 h4]
  · unfold roerr; rw [if_pos h, if_pos h]
theorem far_grp {l : List Wn} {w : Int} (hw : 1 ≤ w) (h : far l = false) (h2 : ∀ y ∈ grp (beg w) l, -1152921504606846976 ≤ y.t) : far (grp (beg w) l) = false := by
  unfold far at h ⊢
  rw [List.any_eq_false] at h ⊢
  intro y hy
  have h3 := h2 y hy
  obtain ⟨x, hx, e⟩ := grp_mem_t hy
  have h4 := h x hx
  have h5 := (beg_le hw x.t).1
  simp at h4 ⊢
  omega
/-- Samples rolled up, and then once more. -/
theorem again_same {l : List (Int × Int)} {w k : Int} (h : roerr l w = 0) (hk : 1 ≤ k) (hwk : w * k ≤ 1099511627776) (h2 : ∀ y ∈ roout l w, -1152921504606846976 ≤ y.t) :
    agerr (roout l w) (w * k) = 0 ∧ agout (roout l w) (w * k) = roout l (w * k) := by
  obtain ⟨hc, h1, hw2, hf, ho⟩ := roerr_zero h
  have hwk1 : 1 ≤ w * k := by have := Int.mul_le_mul h1 hk (by omega) (by omega); simpa using this
  have e0 : roerr l (w * k) = 0 := by rw [roerr_same hwk1 hwk h1 hw2]; exact h
  have e1 := (roerr_zero e0).2.2.2.2
  rw [ho] at h2
  have hg : grp (beg (w * k)) (grp (beg w) (ones l)) = grp (beg (w * k)) (ones l) := grp_grp (beg_beg h1 hk) _
  have hr : rerr (roout l w) (w * k) = 0 := by
    unfold rerr
    rw [if_neg (by omega), if_neg (by omega), ho, far_grp h1 hf h2, hg, crowd_ones _ (chk_zero hc).1]
    simp
  have hcw : chkW (roout l w) = 0 := by rw [ho]; exact roll_chk h1 (chk_zero hc).1 (chk_zero hc).2
  have ha : agerr (roout l w) (w * k) = 0 := by rw [← (rout_agout hcw).2]; exact hr
  refine ⟨ha, ?_⟩
  unfold agout
  rw [if_pos ha, e1, ho, hg]
theorem mul_div {w k : Int} (hw : 1 ≤ w) (hk : 1 ≤ k) (h : ¬ Int.tdiv 1099511627776 k < w) : 1 ≤ w * k ∧ w * k ≤ 1099511627776 ∧ w ≤ 1099511627776 := by
  have h1 : w ≤ Int.tdiv 1099511627776 k := by omega
  rw [Int.tdiv_eq_ediv_of_nonneg (by omega)] at h1
  have h2 := (Int.le_ediv_iff_mul_le (show 0 < k by omega)).1 h1
  have h3 : 1 * k ≤ w * k := Int.mul_le_mul_of_nonneg_right hw (by omega)
  have h4 : w * 1 ≤ w * k := Int.mul_le_mul_of_nonneg_left hk (by omega)
  omega
end P
theorem again_args (v : Value) (l : List (Int × Int)) (wd k : Int) (w : World) (hr : RowS w v l) (hk1 : -9223372036854775808 ≤ k) (hk2 : k ≤ 9223372036854775807) (h : wd < 1 ∨ k < 1 ∨ 1000 < k ∨ Int.tdiv 1099511627776 k < wd) :
    Calls Try.prog 4 #[v, .int .i64 wd, .int .i64 k] w fun e w' => e = .returned (.bool true) ∧ Below w.heap.size w w' := by
  have HL := hide (rolls_any w)
  obtain ⟨a, cap, rfl⟩ := hr.shp
  clear hr
  by_cases h1 : wd < 1
  · clear h
    go_enter Try.func4, Try.ntmps4
    go_wp2_with (go_at_call 14; go_must (refine HL.out.mono ?_); rintro e w1 ⟨rfl, hb⟩)
    go_ret
    exact ⟨rfl, hb⟩
  · have d1 : decide (wd < 1) = false := by simpa using h1
    by_cases h2 : k < 1
    · clear h
      go_enter Try.func4, Try.ntmps4
      go_wp2_with (go_at_call 14; go_must (refine HL.out.mono ?_); rintro e w1 ⟨rfl, hb⟩)
      go_ret
      exact ⟨rfl, hb⟩
    · have d2 : decide (k < 1) = false := by simpa using h2
      by_cases h3 : 1000 < k
      · clear h
        go_enter Try.func4, Try.ntmps4
        go_wp2_with (go_at_call 14; go_must (refine HL.out.mono ?_); rintro e w1 ⟨rfl, hb⟩)
        go_ret
        exact ⟨rfl, hb⟩
      · have d3 : decide (1000 < k) = false := by simpa using h3
        have h4 : Int.tdiv 1099511627776 k < wd := by omega
        have hk0 : (k == 0) = false := by rw [beq_eq_false_iff_ne]; omega
        have hd : IntKind.i64.wrap (Int.tdiv 1099511627776 k) = Int.tdiv 1099511627776 k := by
          have e : Int.tdiv 1099511627776 k = 1099511627776 / k := Int.tdiv_eq_ediv_of_nonneg (by omega)
          have a1 : 0 ≤ 1099511627776 / k := Int.ediv_nonneg (by omega) (by omega)
          have a2 : 1099511627776 / k ≤ 1099511627776 := Int.ediv_le_self _ (by omega)
          rw [e]; exact IntWalk.i64_in _ (by omega)
        clear h
        go_enter Try.func4, Try.ntmps4
        go_wp2_with (go_at_call 14; go_must (refine HL.out.mono ?_); rintro e w1 ⟨rfl, hb⟩)
        go_ret
        exact ⟨rfl, hb⟩
theorem again_bad (v : Value) (l : List (Int × Int)) (wd k : Int) (w : World) (hr : RowS w v l) (h1 : 1 ≤ wd) (h2 : 1 ≤ k) (h3 : k ≤ 1000) (h4 : ¬ Int.tdiv 1099511627776 k < wd) (hc : P.roerr l wd ≠ 0) :
    Calls Try.prog 4 #[v, .int .i64 wd, .int .i64 k] w fun e w' => e = .returned (.bool true) ∧ Below w.heap.size w w' := by
  have HL := hide (rolls_any w)
  obtain ⟨m1, m2, m3⟩ := P.mul_div h1 h2 h4
  have HA := hide (fun (w' : World) (hb : Below w.heap.size w w') => roll_any v l wd w' (hr.below hb (Nat.le_refl _)))
  have HB := hide (fun (w' : World) (hb : Below w.heap.size w w') => roll_any v l (wd * k) w' (hr.below hb (Nat.le_refl _)))
  have he := P.roerr_same (l := l) m1 m2 h1 m3
  have o1 : P.roout l wd = [] := by unfold P.roout; rw [if_neg hc]
  have o2 : P.roout l (wd * k) = [] := by unfold P.roout; rw [he, if_neg hc]
  rw [o1] at HA
  rw [o2, he] at HB
  obtain ⟨a, cap, rfl⟩ := hr.shp
  have d1 : decide (wd < 1) = false := by simp; omega
  have d2 : decide (k < 1) = false := by simp; omega
  have d3 : decide (1000 < k) = false := by simp; omega
  have d4 : decide (Int.tdiv 1099511627776 k < wd) = false := by simpa using h4
  have hk0 : (k == 0) = false := by rw [beq_eq_false_iff_ne]; omega
  obtain ⟨wk, hwk⟩ : ∃ wk, wd * k = wk := ⟨_, rfl⟩
  rw [hwk] at m1 m2 HB
  have hw : IntKind.i64.wrap wk = wk := IntWalk.i64_in _ (by omega)
  clear hr he o1 o2
  generalize P.roerr l wd = c at *
  have t1 : (c != 0) = true := by simpa using hc
  have t2 : (c == c) = true := by simp
  have hd : IntKind.i64.wrap (Int.tdiv 1099511627776 k) = Int.tdiv 1099511627776 k := by
    have e : Int.tdiv 1099511627776 k = 1099511627776 / k := Int.tdiv_eq_ediv_of_nonneg (by omega)
    have a1 : 0 ≤ 1099511627776 / k := Int.ediv_nonneg (by omega) (by omega)
    have a2 : 1099511627776 / k ≤ 1099511627776 := Int.ediv_le_self _ (by omega)
    rw [e]; exact IntWalk.i64_in _ (by omega)
  clear hc h4
  go_enter Try.func4, Try.ntmps4
  go_wp2_with (go_at_call 14; go_must (refine HL.out.mono ?_); rintro e w1 ⟨rfl, hb⟩)
  refine (HA.out _ hb).mono ?_
  rintro e w2 ⟨va, rfl, owna, hb2⟩
  obtain ⟨aa, ca, hva⟩ := OwnW.shp owna
  rw [hva]
  replace hb := Below.next hb hb2
  clear hva owna hb2
  go_wp2_with fail
  refine (HB.out _ hb).mono ?_
  rintro e w3 ⟨vb, rfl, ownb, hb3⟩
  obtain ⟨ab, cb, hvb⟩ := OwnW.shp ownb
  rw [hvb]
  replace hb := Below.next hb hb3
  clear hvb ownb hb3
  go_wp2_with fail
  go_ret
  exact ⟨rfl, hb⟩
set_option maxHeartbeats 2000000 in
theorem again_ok (v : Value) (l : List (Int × Int)) (wd k : Int) (w : World) (hr : RowS w v l) (h1 : 1 ≤ wd) (h2 : 1 ≤ k) (h3 : k ≤ 1000) (h4 : ¬ Int.tdiv 1099511627776 k < wd) (hc : P.roerr l wd = 0) :
    Calls Try.prog 4 #[v, .int .i64 wd, .int .i64 k] w fun e w' => e = .returned (.bool true) ∧ Below w.heap.size w w' := by
  have HL := hide (rolls_any w)
  obtain ⟨m1, m2, m3⟩ := P.mul_div h1 h2 h4
  have HA := hide (fun (w' : World) (hb : Below w.heap.size w w') => roll_any v l wd w' (hr.below hb (Nat.le_refl _)))
  have HB := hide (fun (w' : World) (hb : Below w.heap.size w w') => roll_any v l (wd * k) w' (hr.below hb (Nat.le_refl _)))
  have he := P.roerr_same (l := l) m1 m2 h1 m3
  rw [hc] at HA
  rw [he, hc] at HB
  have HS := hide (fun h => P.again_same hc h2 m2 h)
  have HG := hide (fun (va : Value) (w' : World) (h : RowW w' va (P.roout l wd)) => again_any va (P.roout l wd) (wd * k) w' h)
  have hln : (P.roout l wd).length ≤ 1000 := by
    have hz := P.roerr_zero hc
    have := P.grp_length (P.beg wd) (P.ones l)
    have := (P.chk_zero hz.1).1
    rw [hz.2.2.2.2]; rw [P.ones_length] at *; omega
  obtain ⟨a, cap, rfl⟩ := hr.shp
  have d1 : decide (wd < 1) = false := by simp; omega
  have d2 : decide (k < 1) = false := by simp; omega
  have d3 : decide (1000 < k) = false := by simp; omega
  have d4 : decide (Int.tdiv 1099511627776 k < wd) = false := by simpa using h4
  have hk0 : (k == 0) = false := by rw [beq_eq_false_iff_ne]; omega
  obtain ⟨wk, hwk⟩ : ∃ wk, wd * k = wk := ⟨_, rfl⟩
  rw [hwk] at m1 m2 HB HS HG
  have hw : IntKind.i64.wrap wk = wk := IntWalk.i64_in _ (by omega)
  clear hr he hc
  have hd : IntKind.i64.wrap (Int.tdiv 1099511627776 k) = Int.tdiv 1099511627776 k := by
    have e : Int.tdiv 1099511627776 k = 1099511627776 / k := Int.tdiv_eq_ediv_of_nonneg (by omega)
    have a1 : 0 ≤ 1099511627776 / k := Int.ediv_nonneg (by omega) (by omega)
    have a2 : 1099511627776 / k ≤ 1099511627776 := Int.ediv_le_self _ (by omega)
    rw [e]; exact IntWalk.i64_in _ (by omega)
  clear h4
  generalize P.roout l wd = A at *
  generalize P.roout l wk = B at *
  go_enter Try.func4, Try.ntmps4
  go_wp2_with (go_at_call 14; go_must (refine HL.out.mono ?_); rintro e w1 ⟨rfl, hb⟩)
  refine (HA.out _ hb).mono ?_
  rintro e w2 ⟨va, rfl, owna, hb2⟩
  obtain ⟨aa, ca, hva⟩ := OwnW.shp owna
  rw [hva] at owna ⊢
  replace owna := OwnX.base owna hb.size
  replace hb := Below.next hb hb2
  clear hva hb2
  go_wp2_with fail
  refine (HB.out _ hb).mono ?_
  rintro e w3 ⟨vb, rfl, ownb, hb3⟩
  obtain ⟨ab, cb, hvb⟩ := OwnW.shp ownb
  rw [hvb] at ownb ⊢
  replace ownb := OwnX.base ownb hb.size
  replace owna := OwnX.below owna hb3 (Nat.le_refl _)
  replace hb := Below.next hb hb3
  clear hvb hb3
  obtain ⟨_, _, hv8, ⟨hlc, hmax, hnn⟩, hcase⟩ := OwnW.row owna
  simp only [Value.slice.injEq, true_and] at hv8
  obtain ⟨rfl, rfl⟩ := hv8
  unfold maxLen at hmax
  have HOa := hide owna
  have HOb := hide ownb
  clear owna ownb hnn
  go_wp2_with fail
  go_loopw [62] (fun i wr => ∃ (n : Nat), n ≤ A.length ∧ i = .int .i64 n ∧ (∀ (j : Nat) y, j < n → A[j]? = some y → -1152921504606846976 ≤ y.t) ∧ Below w3.heap.size w3 wr) (fun i _ => A.length - (intOf i).toNat)
  case atStart => exact ⟨0, by omega, rfl, fun j y hj => by omega, Below.refl _ _⟩
  case round =>
    obtain ⟨n, hn, rfl, hlow, hB⟩ := hrel
    have HLow := hide hlow
    clear hlow
    by_cases hlt : n < A.length
    · rcases hcase with h | ⟨b, off, rfl, hbs, hcell⟩
      · rw [h] at hlt; simp at hlt
      have j0 : (0 : Int) ≤ (n : Int) := by omega
      have j1 : (n : Int) < (A.length : Int) := by omega
      obtain ⟨x, hx⟩ : ∃ x, A[n]? = some x := ⟨_, List.getElem?_eq_getElem hlt⟩
      obtain ⟨q0, q1, q2, q3, q4, q5, q6⟩ := (RowW.at hcell hx).below hB hbs
      have HX := hide hx
      clear hcell hx
      obtain ⟨x0, x1, x2, x3, x4, x5, x6⟩ := x
      simp only at q0 q1 q2 q3 q4 q5 q6
      by_cases hx0 : x0 < -1152921504606846976
      · go_wp2
        go_ret
        exact ⟨rfl, Below.next hb (hB.alloc hB.size _)⟩
      · have hdx : decide (x0 < -1152921504606846976) = false := by simpa using hx0
        have HX0 := hide hx0
        clear hx0
        go_wp2
        go_roundw
        case rel =>
          refine ⟨n + 1, by omega, by go_num, fun j y hj hy => ?_, hB.alloc hB.size _⟩
          rcases Nat.lt_or_ge j n with h | h
          · exact HLow.out j y h hy
          · obtain rfl : j = n := by omega
            have := HX.out
            rw [hy] at this
            cases this
            have := HX0.out
            simp only; omega
        case measure => simp [intOf]; omega
    · have hdn : decide ((n : Int) < (A.length : Int)) = false := by simp; omega
      have HS2 := hide (HS.out fun y hy => by obtain ⟨j, hj, e⟩ := List.mem_iff_getElem.1 hy; exact HLow.out j y (by omega) (by rw [List.getElem?_eq_getElem hj, e]))
      have HG2 := hide (HG.out _ wr ((OwnW.row HOa.out).below hB (Nat.le_refl _)))
      rw [HS2.out.1, HS2.out.2] at HG2
      have HOb2 := hide (OwnX.below HOb.out hB (Nat.le_refl _))
      have hbr := Below.next hb hB
      clear HLow HS HS2 HG
      go_wp2_with fail
      refine HG2.out.mono ?_
      rintro e w4 ⟨vc, rfl, ownc, hb4⟩
      obtain ⟨ac, cc, hvc⟩ := OwnW.shp ownc
      rw [hvc] at ownc ⊢
      have ownb := OwnX.below HOb2.out hb4 (Nat.le_refl _)
      replace hbr := Below.next hbr hb4
      clear hvc hb4
      go_wp2_with (first
        | (go_at_call 16; go_must (refine (good_zeros _ 2 _ (row_two_zeros _ _)).mono ?_); rintro e w6 ⟨rfl, rfl⟩; replace ownb := OwnX.below ownb (bel_a _ (.cells #[.int .i64 0, .int .i64 0] 24)) (Nat.le_refl _); replace ownc := OwnX.below ownc (bel_a _ (.cells #[.int .i64 0, .int .i64 0] 24)) (Nat.le_refl _); replace hbr := below_alloc hbr (.cells #[.int .i64 0, .int .i64 0] 24))
        | (go_at_call 17; go_must (refine (equalW_self _ _ B _ (OwnW.row ownb) (OwnW.row ownc)).mono ?_); rintro e w8 ⟨rfl, hb8⟩))
      go_ret
      exact ⟨rfl, Below.next hbr hb8⟩
theorem walk_RollAgain (v : Value) (l : List (Int × Int)) (wd k : Int) (w : World) (hr : RowS w v l) (_ : P.I64s l) (_ : l.length * 16 ≤ 140737488351232) (_ : -9223372036854775808 ≤ wd) (_ : wd ≤ 9223372036854775807) (hk1 : -9223372036854775808 ≤ k) (hk2 : k ≤ 9223372036854775807) :
    Calls Try.prog 4 #[v, .int .i64 wd, .int .i64 k] w fun e w' => e = .returned (.bool true) ∧ Below w.heap.size w w' := by
  by_cases h : wd < 1 ∨ k < 1 ∨ 1000 < k ∨ Int.tdiv 1099511627776 k < wd
  · exact again_args v l wd k w hr hk1 hk2 h
  · have h4 : ¬ Int.tdiv 1099511627776 k < wd := fun x => h (.inr (.inr (.inr x)))
    by_cases hc : P.roerr l wd = 0
    · exact again_ok v l wd k w hr (by omega) (by omega) (by omega) h4 hc
    · exact again_bad v l wd k w hr (by omega) (by omega) (by omega) h4 hc

set_option maxRecDepth 100000 in
theorem lifted_RollAgain (os : Os) (started : os.Started) (H : Type) (enc : TypeId × Value → H) :
    ReturnsInHanded {} Try.checked os 4 .any (Rows.rollAgainSpec.pre6 enc Try.prog Try.f4 Rows.rollAgainRow.domain false) (Rows.rollAgainSpec.post enc Try.prog Try.f4 false true false false) := by
  refine returnsInHanded_of_change_sized (C := Try.checked) own started (by kernel_rfl) Try.func4
    (ChangeSpec.witness6 (enc := enc) (C := Try.checked) false ⟨#[], #[.slice none 0 0, .int .i64 0, .int .i64 0], []⟩ 8 (by kernel_rfl) (by kernel_rfl) (by kernel_rfl) (by kernel_rfl)) ?_
  intro W base args ds gs before hval0 hW hcnd hsz0  _
  have hsz : (DataW.weightsEach Try.prog (Try.f4.params.toList ++ Rows.rollAgainSpec.plain.varTypes Try.prog) (ds ++ gs)).all (· ≤ reachBytes) = true := hsz0
  have hval : ∀ (j : Nat) t v, Try.f4.params[j]? = some t → args[j]? = some v → Value.okWide Try.prog W .any base t v := hval0
  have hW' := hW
  obtain ⟨p, q, hA0, hV, rfl, hfz, hnd⟩ := hW
  have hA : DataW.TrodAll enc Try.prog W 0 (fun _ => true) true Try.f4.params.toList args.toList ds p := hA0
  rw [Try.params4] at hA hval hsz
  obtain ⟨v0, vs0, d0, ds0, p0, q0, hargs, rfl, rfl, h0, r0⟩ := trodAll_cons hA
  obtain ⟨v1, vs1, d1, ds1, p1, q1, rfl, rfl, rfl, h1, r1⟩ := trodAll_cons r0
  obtain ⟨v2, vs2, d2, ds2, p2, q2, rfl, rfl, rfl, h2, r2⟩ := trodAll_cons r1
  obtain ⟨rfl, rfl, rfl⟩ := trodAll_nil r2
  obtain rfl : args = #[v0, v1, v2] := by cases args; simp_all
  obtain ⟨rfl, rfl⟩ := trodVars_none hV
  have k0 := h0
  have lt0 : ∀ x ∈ p0, x.block < W.heap.size := by obtain ⟨m, hm⟩ := k0; exact DataW.trod_lt m _ _ _ hm
  obtain ⟨s0, len0, cap0, rfl⟩ := okWide_slice Try.underlying22 (hval 0 22 v0 rfl rfl)
  obtain ⟨l0, row0, wf0, sh0⟩ := open_samples h0
  have rc0 := row_reachN hsz (j := 0) (t := 22) rfl rfl Try.underlying22 sh0
  rw [bytes40] at rc0
  have k1 := h1
  have lt1 : ∀ x ∈ p1, x.block < W.heap.size := by obtain ⟨m, hm⟩ := k1; exact DataW.trod_lt m _ _ _ hm
  obtain ⟨a1, rfl, rfl, rfl, w1⟩ := open_int Try.underlying2 (hval 1 2 v1 rfl rfl) h1
  have b1 := bounds_i64 w1
  have k2 := h2
  have lt2 : ∀ x ∈ p2, x.block < W.heap.size := by obtain ⟨m, hm⟩ := k2; exact DataW.trod_lt m _ _ _ hm
  obtain ⟨a2, rfl, rfl, rfl, w2⟩ := open_int Try.underlying2 (hval 2 2 v2 rfl rfl) h2
  have b2 := bounds_i64 w2
  clear hA0 hval0
  refine (walk_RollAgain (.slice s0 len0 cap0) l0 a1 a2 W row0 wf0 rc0 b1.1 b1.2 b2.1 b2.2).mono fun e W' ⟨he, bel⟩ => ?_
  subst he
  exact ⟨_, rfl, _, _, _, [], _, [], hW', trodAll_mk1 (shut_bool Try.underlying4 _), (trodAll_cons_mk (Below.trod laidOut (by kernel_rfl) (of_decide_eq_true (by kernel_rfl)) k0 bel lt0) (trodAll_cons_mk (Below.trod laidOut (by kernel_rfl) (of_decide_eq_true (by kernel_rfl)) k1 bel lt1) (trodAll_cons_mk (Below.trod laidOut (by kernel_rfl) (of_decide_eq_true (by kernel_rfl)) k2 bel lt2) trodAll_mk0))), rfl, bel.frame _, fun h => by cases h⟩

theorem proved_RollAgain : Rows.RollAgainSaid :=
  OpenClaim.holds_of_wide 4 Try.f4 rfl rfl rfl rfl rfl rfl rfl ⟨rfl, rfl, rfl, rfl, rfl⟩ rfl rfl rfl rfl rfl (by kernel_rfl) Try.func4 (by kernel_rfl)
    (of_decide_eq_true (by kernel_rfl)) (by unfold Func.isWrapper; first | (rw [if_pos (by decide +kernel)]; kernel_rfl) | (rw [if_neg (by decide +kernel)]; exact ⟨rfl, rfl⟩))
    (fun os started H enc _ => lifted_RollAgain os started H enc)
#print axioms proved_RollAgain

end Go.Proofs.Ytgfjhcjplhlonaa
