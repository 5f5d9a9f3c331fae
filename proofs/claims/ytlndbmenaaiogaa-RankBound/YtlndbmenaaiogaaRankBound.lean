/- RankBound holds: at all inputs the law answers true and changes nothing that was there. -/
import Derived.Test.YtlndbmenaaiogaaRankT
import Derived.Test.YtlndbmenaaiogaaRankW
namespace Go.Proofs.Ytlndbmenaaiogaa
open Go.ChangeShapes Go.WideShapes Go.ChangeAt Go.RowKit
set_option linter.unusedVariables false
set_option maxHeartbeats 1000000 in
theorem walk_RankBound (k : Int) (v : Value) (l : List Int) (x : Int) (w : World) (_ : -9223372036854775808 ≤ k) (_ : k ≤ 9223372036854775807) (hr : RowK .i64 w v l) (_ : ∀ z ∈ l, -9223372036854775808 ≤ z ∧ z ≤ 9223372036854775807) (hln : l.length * 8 ≤ 140737488351232) (_ : -9223372036854775808 ≤ x) (_ : x ≤ 9223372036854775807) :
    Calls Try.prog 6 #[.int .i64 k, v, .int .i64 x] w fun e w' => e = .returned (.bool true) ∧ Below w.heap.size w w' := by
  have HKs := hide (fun wx (hb : Below w.heap.size w wx) => ranked_any k v l wx (hr.below hb (Nat.le_refl _)))
  have HRw := hide (fun wx (hb : Below w.heap.size w wx) => hr.below hb (Nat.le_refl _))
  have hlmax : (l.length : Int) ≤ 9223372036854775807 := by omega
  obtain ⟨av, cv, rfl⟩ : ∃ a c, v = .slice a l.length c := by obtain ⟨a, c, h, _⟩ := hr; exact ⟨a, c, h⟩
  clear hr
  go_enter Try.func6, Try.ntmps6
  go_wp2_with (go_at_call 22; go_must (refine (ranks_any _).mono ?_); rintro e w1 ⟨rfl, hb1⟩)
  refine (HKs.out _ hb1).mono ?_
  rintro e w2 ⟨tv, lv, S, ok, rfl, own2, p2, p3, hb2⟩
  obtain ⟨⟨xt, yt, rfl⟩, xl, yl, rfl⟩ := own2.shapes
  have HB2 := hide (Below.next hb1 hb2)
  clear hb1 hb2
  cases ok with
  | false =>
    have hbd := p3 rfl
    clear p2 p3 own2 HKs
    by_cases k1 : k < 2
    · go_wp2
      go_ret
      exact ⟨rfl, HB2.out.alloc HB2.out.size _⟩
    · have d1 : decide (k < 2) = false := by simpa using k1
      by_cases k2 : 64 < k
      · go_wp2
        go_ret
        exact ⟨rfl, HB2.out.alloc HB2.out.size _⟩
      · have d2 : decide (64 < k) = false := by simpa using k2
        have d3 : decide (1000 < (l.length : Int)) = true := by simp; omega
        have d4 : (1000 : Int) < (l.length : Int) := by omega
        clear hbd k1 k2
        go_wp2
        go_ret
        exact ⟨rfl, HB2.out.alloc HB2.out.size _⟩
  | true =>
    obtain ⟨q1, q2, q3⟩ := p2 rfl
    clear p2 p3 HKs
    have X1 := BoxR.new w2 (.slice xt S.tail.length yt) (.slice xl S.lv.length yl) S
    have X2 : OwnV (w2.alloc (.cells #[.int .i64 S.k, .slice xt S.tail.length yt, .slice xl S.lv.length yl, .int .i64 S.n, .int .i64 S.sl] 25)) 0 (.slice xt S.tail.length yt) (.slice xl S.lv.length yl) S := own2.below ((Below.refl w2.heap.size w2).alloc (Nat.le_refl _) _) (Nat.le_refl _)
    have HB3 : Hid (Below w.heap.size w (w2.alloc (.cells #[.int .i64 S.k, .slice xt S.tail.length yt, .slice xl S.lv.length yl, .int .i64 S.n, .int .i64 S.sl] 25))) := HB2.out.alloc HB2.out.size _
    have HX1 := hide X1
    have HV := hide X2.read
    clear X1 X2 own2
    have HW := hide (fun wx (hb : Below (w2.alloc (.cells #[.int .i64 S.k, .slice xt S.tail.length yt, .slice xl S.lv.length yl, .int .i64 S.n, .int .i64 S.sl] 25)).heap.size (w2.alloc (.cells #[.int .i64 S.k, .slice xt S.tail.length yt, .slice xl S.lv.length yl, .int .i64 S.n, .int .i64 S.sl] 25)) wx) => Weight_ok _ _ S x wx (HV.out.below hb (Nat.le_refl _)) q2)
    have HC := hide (fun wx (hb : Below (w2.alloc (.cells #[.int .i64 S.k, .slice xt S.tail.length yt, .slice xl S.lv.length yl, .int .i64 S.n, .int .i64 S.sl] 25)).heap.size (w2.alloc (.cells #[.int .i64 S.k, .slice xt S.tail.length yt, .slice xl S.lv.length yl, .int .i64 S.n, .int .i64 S.sl] 25)) wx) => check_any _ _ S wx (HV.out.below hb (Nat.le_refl _)))
    rw [P.chkR_ok q2] at HC
    have HU := hide (fun wx (hb : Below w.heap.size w wx) => upTo_any _ l x wx (HRw.out wx hb))
    have hn := q3.n
    have hwt := q3.wt x
    have hwn := P.wtR_le q2.1 x
    have hsl0 := q2.1.sl
    have hsl1 := q2.2.2
    have hnum := q2.num
    have hk64 := q2.1.k64
    have hna := P.na_le x l
    generalize P.wtR x S = u at *
    generalize P.na x l = n at *
    have e1 : (S.n == (l.length : Int)) = true := by rw [beq_iff_eq]; exact hn
    have e2 : (u : Int) ≤ (n : Int) := by omega
    have e3 : (n : Int) ≤ (u : Int) + S.sl := by omega
    have e4 : (u : Int) + S.sl ≤ 9223372036854775807 := by omega
    have e5 : (0 : Int) ≤ (u : Int) + S.sl := by omega
    obtain ⟨c0, c1, c2, c3, c4⟩ := HX1.out.cells
    clear q1 q2 q3 hn hwt hwn hnum hna HRw HV
    go_wp2_with fail
    generalize (w2.alloc (.cells #[.int .i64 S.k, .slice xt S.tail.length yt, .slice xl S.lv.length yl, .int .i64 S.n, .int .i64 S.sl] 25)) = W at *
    refine (HW.out _ (Below.refl _ _)).mono ?_
    rintro e w4 ⟨rfl, hb4⟩
    have d0 := keep_cell c0 hb4; have d1 := keep_cell c1 hb4; have d2 := keep_cell c2 hb4; have d3 := keep_cell c3 hb4; have d4 := keep_cell c4 hb4
    have HB4 := hide (Below.next HB3.out hb4)
    have HCw := hide (HC.out w4 hb4)
    clear c0 c1 c2 c3 c4 hb4 HC
    go_wp2_with (first
      | (go_at_call 24; go_must (refine (HU.out _ HB4.out).mono ?_); rintro e w5 ⟨rfl, rfl⟩)
      | (go_at_call 13; go_must (refine HCw.out.mono ?_); rintro e w6 ⟨rfl, hb6⟩))
    go_ret
    exact ⟨rfl, Below.next HB4.out hb6⟩

set_option maxRecDepth 100000 in
theorem lifted_RankBound (os : Os) (started : os.Started) (H : Type) (enc : TypeId × Value → H) :
    ReturnsInHanded {} Try.checked os 6 .any (Rows.rankBoundSpec.pre6 enc Try.prog Try.f6 Rows.rankBoundRow.domain false) (Rows.rankBoundSpec.post enc Try.prog Try.f6 false true false false) := by
  refine returnsInHanded_of_change_sized (C := Try.checked) own started (by kernel_rfl) Try.func6
    (ChangeSpec.witness6 (enc := enc) (C := Try.checked) false ⟨#[], #[.int .i64 0, .slice none 0 0, .int .i64 0], []⟩ 8 (by kernel_rfl) (by kernel_rfl) (by kernel_rfl) (by kernel_rfl)) ?_
  intro W base args ds gs before hval0 hW hcnd hsz0  _
  have hsz : (DataW.weightsEach Try.prog (Try.f6.params.toList ++ Rows.rankBoundSpec.plain.varTypes Try.prog) (ds ++ gs)).all (· ≤ reachBytes) = true := hsz0
  have hval : ∀ (j : Nat) t v, Try.f6.params[j]? = some t → args[j]? = some v → Value.okWide Try.prog W .any base t v := hval0
  have hW' := hW
  obtain ⟨p, q, hA0, hV, rfl, hfz, hnd⟩ := hW
  have hA : DataW.TrodAll enc Try.prog W 0 (fun _ => true) true Try.f6.params.toList args.toList ds p := hA0
  rw [Try.params6] at hA hval hsz
  obtain ⟨v0, vs0, d0, ds0, p0, q0, hargs, rfl, rfl, h0, r0⟩ := trodAll_cons hA
  obtain ⟨v1, vs1, d1, ds1, p1, q1, rfl, rfl, rfl, h1, r1⟩ := trodAll_cons r0
  obtain ⟨v2, vs2, d2, ds2, p2, q2, rfl, rfl, rfl, h2, r2⟩ := trodAll_cons r1
  obtain ⟨rfl, rfl, rfl⟩ := trodAll_nil r2
  obtain rfl : args = #[v0, v1, v2] := by cases args; simp_all
  obtain ⟨rfl, rfl⟩ := trodVars_none hV
  have k0 := h0
  have lt0 : ∀ x ∈ p0, x.block < W.heap.size := by obtain ⟨m, hm⟩ := k0; exact DataW.trod_lt m _ _ _ hm
  obtain ⟨a0, rfl, rfl, rfl, w0⟩ := open_int Try.underlying3 (hval 0 3 v0 rfl rfl) h0
  have b0 := bounds_i64 w0
  have k1 := h1
  have lt1 : ∀ x ∈ p1, x.block < W.heap.size := by obtain ⟨m, hm⟩ := k1; exact DataW.trod_lt m _ _ _ hm
  obtain ⟨s1, len1, cap1, rfl⟩ := okWide_slice Try.underlying22 (hval 1 22 v1 rfl rfl)
  obtain ⟨l1, row1, wf1, sh1⟩ := open_row Try.underlying22 Try.underlying2 cells2 h1
  have rc1 := row_reach hsz (j := 1) (t := 22) rfl rfl Try.underlying22 sh1
  rw [bytes2] at rc1
  have k2 := h2
  have lt2 : ∀ x ∈ p2, x.block < W.heap.size := by obtain ⟨m, hm⟩ := k2; exact DataW.trod_lt m _ _ _ hm
  obtain ⟨a2, rfl, rfl, rfl, w2⟩ := open_int Try.underlying2 (hval 2 2 v2 rfl rfl) h2
  have b2 := bounds_i64 w2
  clear hA0 hval0
  refine (walk_RankBound a0 (.slice s1 len1 cap1) l1 a2 W b0.1 b0.2 row1 (fun x hx => bounds_i64 (wf1 x hx)) rc1 b2.1 b2.2).mono fun e W' ⟨he, bel⟩ => ?_
  subst he
  exact ⟨_, rfl, _, _, _, [], _, [], hW', trodAll_mk1 (shut_bool Try.underlying4 _), (trodAll_cons_mk (Below.trod laidOut (by kernel_rfl) (of_decide_eq_true (by kernel_rfl)) k0 bel lt0) (trodAll_cons_mk (Below.trod laidOut (by kernel_rfl) (of_decide_eq_true (by kernel_rfl)) k1 bel lt1) (trodAll_cons_mk (Below.trod laidOut (by kernel_rfl) (of_decide_eq_true (by kernel_rfl)) k2 bel lt2) trodAll_mk0))), rfl, bel.frame _, fun h => by cases h⟩

theorem proved_RankBound : Rows.RankBoundSaid :=
  OpenClaim.holds_of_wide 6 Try.f6 rfl rfl rfl rfl rfl rfl rfl ⟨rfl, rfl, rfl, rfl, rfl⟩ rfl rfl rfl rfl rfl (by kernel_rfl) Try.func6 (by kernel_rfl)
    (of_decide_eq_true (by kernel_rfl)) (by unfold Func.isWrapper; first | (rw [if_pos (by decide +kernel)]; kernel_rfl) | (rw [if_neg (by decide +kernel)]; exact ⟨rfl, rfl⟩))
    (fun os started H enc _ => lifted_RankBound os started H enc)
#print axioms proved_RankBound
end Go.Proofs.Ytlndbmenaaiogaa
