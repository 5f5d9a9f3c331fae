/- RankOrder holds: at all ranks and places the law answers true and changes nothing that was there. -/
import Derived.Test.YtlndbmenaaiogabRankQ
import Derived.Test.YtlndbmenaaiogabRankE
import Derived.Test.YtlndbmenaaiogabGoodAny
namespace Go.Proofs.Ytlndbmenaaiogab
open Go.ChangeShapes Go.WideShapes Go.ChangeAt Go.RowKit
set_option linter.unusedVariables false
theorem row_two (w : World) (a b : Int) (t : TypeId) : RowK .i64 (w.alloc (.cells #[.int .i64 a, .int .i64 b] t)) (.slice (some ⟨w.heap.size, 0, none⟩) 2 2) [a, b] := by
  refine ⟨_, 2, rfl, ⟨by simp, by decide, fun h => by cases h⟩, .inr ⟨w.heap.size, 0, rfl, by simp, fun j hj => ?_⟩⟩
  match j, hj with
  | 0, _ => simp
  | 1, _ => simp
theorem allZ_two (a b : Int) : allZ [a, b] = decide (a = 0 ∧ b = 0) := by
  unfold allZ
  congr 1
  simp only [List.length_cons, List.length_nil, eq_iff_iff]
  constructor
  · intro h; exact ⟨by simpa using h 0 (by omega), by simpa using h 1 (by omega)⟩
  · rintro ⟨h1, h2⟩ j hj
    match j, hj with
    | 0, _ => simpa using h1
    | 1, _ => simpa using h2
set_option maxHeartbeats 1000000 in
theorem walk_RankOrder (tv lv : Value) (s : P.Rk) (r q : Int) (w : World) (hr : RkV w tv lv s) (hi : RkI s) (_ : -9223372036854775808 ≤ r) (_ : r ≤ 9223372036854775807) (_ : -9223372036854775808 ≤ q) (_ : q ≤ 9223372036854775807) :
    Calls Try.prog 4 #[aggR tv lv s, .int .i64 r, .int .i64 q] w fun e w' => e = .returned (.bool true) ∧ Below w.heap.size w w' := by
  have HB := hide ((Below.refl _ w).alloc (Nat.le_refl _) (.cells #[.int .i64 s.k, tv, lv, .int .i64 s.n, .int .i64 s.sl] 26))
  obtain ⟨b0, b1, b2, b3, b4⟩ := box5 (w := w) (c0 := .int .i64 s.k) (c1 := tv) (c2 := lv) (c3 := .int .i64 s.n) (c4 := .int .i64 s.sl) (t := 26)
  have HQ := hide (fun (z : Int) wx (hb : Below w.heap.size w wx) => Query_any tv lv s z wx (hr.below hb (Nat.le_refl _)))
  have HW := hide (fun (hg : P.Good s) (z : Int) wx (hb : Below w.heap.size w wx) => Weight_ok tv lv s z wx (hr.below hb (Nat.le_refl _)) hg)
  have HGD := hide (fun (a b : Int) wx => good_any _ _ _ (row_two wx a b 29))
  have HQr := hide (fun wx hb => HQ.out r wx hb)
  have HQq := hide (fun wx hb => HQ.out q wx hb)
  have HQn := hide (fun wx hb => HQ.out s.n wx hb)
  have HZr := hide (fun h => P.qE_zero (s := s) (r := r) h)
  have HZq := hide (fun h => P.qE_zero (s := s) (r := q) h)
  have HZn := hide (fun hg h1 => P.qE_ok (s := s) (r := s.n) hg h1 (Int.le_refl _))
  generalize P.qE s r = e1 at *
  generalize P.qE s q = e2 at *
  generalize P.qE s s.n = e3 at *
  clear hr hi HQ
  go_enter Try.func4, Try.ntmps4
  go_wp2_with (go_at_call 6; go_must (refine (ranks_any _).mono ?_); rintro e w1 ⟨rfl, hb1⟩; have d0 := keep_cell b0 hb1; have d1 := keep_cell b1 hb1; have d2 := keep_cell b2 hb1; have d3 := keep_cell b3 hb1; have d4 := keep_cell b4 hb1; have HB1 := hide (Below.next HB.out hb1); clear hb1 b0 b1 b2 b3 b4)
  refine (HQr.out _ HB1.out).mono ?_
  rintro e w2 ⟨a, rfl, ha0, haq, hb2⟩
  have x0 := keep_cell d0 hb2; have x1 := keep_cell d1 hb2; have x2 := keep_cell d2 hb2; have x3 := keep_cell d3 hb2; have x4 := keep_cell d4 hb2
  have HB2 := hide (Below.next HB1.out hb2)
  have HA0 := hide ha0
  have HAQ := hide haq
  clear hb2 d0 d1 d2 d3 d4 ha0 haq
  go_wp2_with fail
  refine (HQq.out _ HB2.out).mono ?_
  rintro e w3 ⟨b, rfl, hb0, hbq, hb3⟩
  have f0 := keep_cell x0 hb3; have f1 := keep_cell x1 hb3; have f2 := keep_cell x2 hb3; have f3 := keep_cell x3 hb3; have f4 := keep_cell x4 hb3
  have HB3 := hide (Below.next HB2.out hb3)
  have HBQ := hide hbq
  clear hb3 x0 x1 x2 x3 x4 hb0 hbq
  have HG := hide (HGD.out e1 e2 w3)
  rw [allZ_two] at HG
  have g0 := keep_alloc f0 (.cells #[.int .i64 e1, .int .i64 e2] 29)
  have g1 := keep_alloc f1 (.cells #[.int .i64 e1, .int .i64 e2] 29)
  have g2 := keep_alloc f2 (.cells #[.int .i64 e1, .int .i64 e2] 29)
  have g3 := keep_alloc f3 (.cells #[.int .i64 e1, .int .i64 e2] 29)
  have g4 := keep_alloc f4 (.cells #[.int .i64 e1, .int .i64 e2] 29)
  have HB4 := hide (HB3.out.alloc HB3.out.size (.cells #[.int .i64 e1, .int .i64 e2] 29))
  by_cases he : e1 = 0 ∧ e2 = 0
  · rw [decide_eq_true he] at HG
    obtain ⟨he1, he2⟩ := he
    obtain ⟨hg, hr1, hr2⟩ := HZr.out he1
    have hn1 : 1 ≤ s.n := by omega
    have he3 := HZn.out hg hn1
    have HQ1 := hide (HAQ.out he1)
    have HQ2 := hide (HBQ.out he2)
    have HWn := hide (HW.out hg)
    have HM := hide hg.1
    subst he1 he2 he3
    clear hg hr1 hr2 HAQ HBQ HA0 HZr HZq HZn hn1
    go_wp2_with (go_at_call 12; go_must (refine HG.out.mono ?_); rintro e w5 ⟨rfl, rfl⟩)
    refine (HQn.out _ HB4.out).mono ?_
    rintro e w6 ⟨c, rfl, _, hcq, hb6⟩
    have HQ3 := hide (hcq (by trivial))
    have k0 := keep_cell g0 hb6; have k1 := keep_cell g1 hb6; have k2 := keep_cell g2 hb6; have k3 := keep_cell g3 hb6; have k4 := keep_cell g4 hb6
    have HB6 := hide (Below.next HB4.out hb6)
    clear hb6 hcq g0 g1 g2 g3 g4
    have HWc := hide (fun wx hb => HWn.out c wx hb)
    have hwc := HQ3.out.last HM.out
    have hac : a ≤ c := by
      have h1 := P.wtR_le HM.out a
      have h2 := HQ3.out.2.1
      rcases Int.lt_or_le c a with h | h
      · have h3 := HQ1.out.2.2 c HQ3.out.1 (by have := HQ1.out.2.1; omega)
        exact h3
      · exact h
    have hab : r ≤ q → a ≤ b := fun h => HQ1.out.mono HQ2.out h
    generalize P.wtR c s = wc at *
    go_wp2_with fail
    refine (HWc.out _ HB6.out).mono ?_
    rintro e w7 ⟨rfl, hb7⟩
    have l3 := keep_cell k3 hb7
    have HB7 := hide (Below.next HB6.out hb7)
    have e3 : ((wc : Int) == s.n) = true := by rw [beq_iff_eq]; exact hwc
    clear hb7 hwc k0 k1 k2 k3 k4
    by_cases hqr : q < r
    · clear hab
      go_wp2
      go_ret
      exact ⟨rfl, HB7.out⟩
    · have hqr' : decide (q < r) = false := by simpa using hqr
      have hab' := hab (by omega)
      clear hab hqr
      go_wp2
      go_ret
      exact ⟨rfl, HB7.out⟩
  · rw [decide_eq_false he] at HG
    by_cases h1 : e1 = 0
    · have hd : (e1 == 0) = true := by rw [beq_iff_eq]; exact h1
      clear he h1
      go_wp2_with (go_at_call 12; go_must (refine HG.out.mono ?_); rintro e w5 ⟨rfl, rfl⟩)
      go_ret
      exact ⟨rfl, HB4.out⟩
    · have hd : (e1 == 0) = false := by rw [beq_eq_false_iff_ne]; exact h1
      have ha : a = 0 := HA0.out h1
      clear he h1
      subst ha
      go_wp2_with (go_at_call 12; go_must (refine HG.out.mono ?_); rintro e w5 ⟨rfl, rfl⟩)
      go_ret
      exact ⟨rfl, HB4.out⟩

set_option maxRecDepth 100000 in
theorem lifted_RankOrder (os : Os) (started : os.Started) (H : Type) (enc : TypeId × Value → H) :
    ReturnsInHanded {} Try.checked os 4 .any (Rows.rankOrderSpec.pre6 enc Try.prog Try.f4 Rows.rankOrderRow.domain false) (Rows.rankOrderSpec.post enc Try.prog Try.f4 false true false false) := by
  refine returnsInHanded_of_change_sized (C := Try.checked) own started (by kernel_rfl) Try.func4
    (ChangeSpec.witness6 (enc := enc) (C := Try.checked) false ⟨#[], #[.agg #[.int .i64 0, .slice none 0 0, .slice none 0 0, .int .i64 0, .int .i64 0], .int .i64 0, .int .i64 0], []⟩ 8 (by kernel_rfl) (by kernel_rfl) (by kernel_rfl) (by kernel_rfl)) ?_
  intro W base args ds gs before hval0 hW hcnd hsz0  _
  have hsz : (DataW.weightsEach Try.prog (Try.f4.params.toList ++ Rows.rankOrderSpec.plain.varTypes Try.prog) (ds ++ gs)).all (· ≤ reachBytes) = true := hsz0
  have hval : ∀ (j : Nat) t v, Try.f4.params[j]? = some t → args[j]? = some v → Value.okWide Try.prog W .any base t v := hval0
  have hW' := hW
  obtain ⟨p, q, hA0, hV, rfl, hfz, hnd⟩ := hW
  have hA : DataW.TrodAll enc Try.prog W 0 (fun _ => true) true Try.f4.params.toList args.toList ds p := hA0
  rw [Try.params4] at hA hval hsz
  obtain ⟨v0, vs0, d0, ds0, p0, q0, hargs, rfl, rfl, h0, r0⟩ := trodAll_cons hA
  obtain ⟨v1, vs1, d1, ds1, p1, q1, rfl, rfl, rfl, h1, r1⟩ := trodAll_cons r0
  obtain ⟨v2, vs2, d2, ds2, p2, q2, rfl, rfl, rfl, h2, r2⟩ := trodAll_cons r1
  obtain ⟨rfl, rfl, rfl⟩ := trodAll_nil r2
  obtain rfl : args = #[v0, v1, v2] := by cases args; simp_all
  obtain ⟨rfl, rfl⟩ := trodVars_none hV
  have k0 := h0
  have lt0 : ∀ x ∈ p0, x.block < W.heap.size := by obtain ⟨m, hm⟩ := k0; exact DataW.trod_lt m _ _ _ hm
  obtain ⟨tv0, lv0, x0, rfl, rk0, ri0⟩ := open_rank (hval 0 26 v0 rfl rfl) h0
  have k1 := h1
  have lt1 : ∀ x ∈ p1, x.block < W.heap.size := by obtain ⟨m, hm⟩ := k1; exact DataW.trod_lt m _ _ _ hm
  obtain ⟨a1, rfl, rfl, rfl, w1⟩ := open_int Try.underlying2 (hval 1 2 v1 rfl rfl) h1
  have b1 := bounds_i64 w1
  have k2 := h2
  have lt2 : ∀ x ∈ p2, x.block < W.heap.size := by obtain ⟨m, hm⟩ := k2; exact DataW.trod_lt m _ _ _ hm
  obtain ⟨a2, rfl, rfl, rfl, w2⟩ := open_int Try.underlying2 (hval 2 2 v2 rfl rfl) h2
  have b2 := bounds_i64 w2
  clear hA0 hval0
  refine (walk_RankOrder tv0 lv0 x0 a1 a2 W rk0 ri0 b1.1 b1.2 b2.1 b2.2).mono fun e W' ⟨he, bel⟩ => ?_
  subst he
  exact ⟨_, rfl, _, _, _, [], _, [], hW', trodAll_mk1 (shut_bool Try.underlying4 _), (trodAll_cons_mk (Below.trod laidOut (by kernel_rfl) (of_decide_eq_true (by kernel_rfl)) k0 bel lt0) (trodAll_cons_mk (Below.trod laidOut (by kernel_rfl) (of_decide_eq_true (by kernel_rfl)) k1 bel lt1) (trodAll_cons_mk (Below.trod laidOut (by kernel_rfl) (of_decide_eq_true (by kernel_rfl)) k2 bel lt2) trodAll_mk0))), rfl, bel.frame _, fun h => by cases h⟩

theorem proved_RankOrder : Rows.RankOrderSaid :=
  OpenClaim.holds_of_wide 4 Try.f4 rfl rfl rfl rfl rfl rfl rfl ⟨rfl, rfl, rfl, rfl, rfl⟩ rfl rfl rfl rfl rfl (by kernel_rfl) Try.func4 (by kernel_rfl)
    (of_decide_eq_true (by kernel_rfl)) (by unfold Func.isWrapper; first | (rw [if_pos (by decide +kernel)]; kernel_rfl) | (rw [if_neg (by decide +kernel)]; exact ⟨rfl, rfl⟩))
    (fun os started H enc _ => lifted_RankOrder os started H enc)
#print axioms proved_RankOrder
end Go.Proofs.Ytlndbmenaaiogab
