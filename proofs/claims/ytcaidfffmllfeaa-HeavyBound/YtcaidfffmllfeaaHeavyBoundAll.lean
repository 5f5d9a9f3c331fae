/- HeavyBound holds: at all inputs the law answers true and changes nothing that was there. -/
import Derived.Test.YtcaidfffmllfeaaHeavyBadAll
namespace Go.Proofs.Ytcaidfffmllfeaa
open Go.ChangeShapes Go.WideShapes Go.ChangeAt Go.RowKit
set_option linter.unusedVariables false
set_option maxRecDepth 100000 in
set_option maxHeartbeats 2000000 in
theorem walk_HeavyBound (k : Int) (v : Value) (l : List ByteArray) (q : ByteArray) (w : World) (k0 : -9223372036854775808 ≤ k) (k1 : k ≤ 9223372036854775807) (hr : RowT w v l) (hl : TxOk l) (hln : l.length * 16 ≤ 140737488351232) (hq : q.size ≤ 140737488351232) :
    Calls Try.prog 5 #[.int .i64 k, v, .string q] w fun e w' => e = .returned (.bool true) ∧ Below w.heap.size w w' := by
  have HKs := hide (fun wx (hb : Below w.heap.size w wx) => tallied_any k v l wx (hr.below hb (Nat.le_refl _)) hl)
  have HLg := hide (fun wx (hb : Below w.heap.size w wx) => long_any v l wx (hr.below hb (Nat.le_refl _)) hl)
  have HTm := hide (fun wx (hb : Below w.heap.size w wx) => times_any v l q wx (hr.below hb (Nat.le_refl _)) (by omega))
  have hlmax : (l.length : Int) ≤ 9223372036854775807 := by omega
  have hqmax : (q.size : Int) ≤ 9223372036854775807 := by omega
  obtain ⟨av, cv, rfl⟩ := hr.shp
  clear hr
  go_enter Try.func5, Try.ntmps5
  go_wp2_with (go_at_call 19; go_must (refine (tallies_any _).mono ?_); rintro e w1 ⟨rfl, hb1⟩)
  refine (HKs.out _ hb1).mono ?_
  rintro e w2 ⟨sv, S, ok, rfl, own2, p2, p3, hb2⟩
  obtain ⟨xt, yt, rfl⟩ := own2.shp ctC_len
  have HB2 := hide (Below.next hb1 hb2)
  clear hb1 hb2
  cases ok with
  | false =>
    have hbd := P.bad_ways (p3 rfl)
    have HB3 := hide (HB2.out.alloc HB2.out.size (.cells #[.int .i64 S.k, .slice xt S.l.length yt, .int .i64 S.n, .int .i64 S.off] 24))
    have HLg2 := hide (HLg.out _ HB3.out)
    clear p2 p3 own2 HKs HTm HLg
    rcases hbd with d1 | ⟨d1, d2⟩ | ⟨d1, d2, d3⟩ | ⟨d1, d2, d3, d4⟩
    · go_wp2
      go_ret
      exact ⟨rfl, HB3.out⟩
    · go_wp2
      go_ret
      exact ⟨rfl, HB3.out⟩
    · rw [d3] at HLg2
      go_wp2_with (go_at_call 21; go_must (refine HLg2.out.mono ?_); rintro e w3 ⟨rfl, rfl⟩)
      go_ret
      exact ⟨rfl, HB3.out⟩
    · rw [d3] at HLg2
      have d5 : decide ((1000000000 : Int) < (l.length : Int)) = true := by simpa using d4
      go_wp2_with (go_at_call 21; go_must (refine HLg2.out.mono ?_); rintro e w3 ⟨rfl, rfl⟩)
      go_ret
      exact ⟨rfl, HB3.out⟩
  | true =>
    have hrep := p2 rfl
    clear p2 p3 HKs HLg
    have HB3 : Hid (Below w.heap.size w (w2.alloc (.cells #[.int .i64 S.k, .slice xt S.l.length yt, .int .i64 S.n, .int .i64 S.off] 24))) := HB2.out.alloc HB2.out.size _
    have X1 : BoxH (w2.alloc (.cells #[.int .i64 S.k, .slice xt S.l.length yt, .int .i64 S.n, .int .i64 S.off] 24)) w2.heap.size (.slice xt S.l.length yt) S := BoxH.new w2 _ S
    have X2 : RowC (w2.alloc (.cells #[.int .i64 S.k, .slice xt S.l.length yt, .int .i64 S.n, .int .i64 S.off] 24)) (.slice xt S.l.length yt) S.l := own2.row.alloc _
    have HCt := hide (Count_any (.slice xt S.l.length yt) S q _ X2 hrep.good.hvI (by omega))
    have HCk := hide (fun wx (hb : Below (w2.alloc (.cells #[.int .i64 S.k, .slice xt S.l.length yt, .int .i64 S.n, .int .i64 S.off] 24)).heap.size (w2.alloc (.cells #[.int .i64 S.k, .slice xt S.l.length yt, .int .i64 S.n, .int .i64 S.off] 24)) wx) => check_any (.slice xt S.l.length yt) S wx (X2.below hb (Nat.le_refl _)) hrep.good.hvI)
    rw [P.chkH_ok hrep.good] at HCk
    have HX1 := hide X1
    obtain ⟨c0, c1, c2, c3⟩ := X1.cells
    clear X1 X2 own2
    go_upto_region 6 with fail
    generalize (w2.alloc (.cells #[.int .i64 S.k, .slice xt S.l.length yt, .int .i64 S.n, .int .i64 S.off] 24)) = W at *
    by_cases hlong : 40 < q.size
    · rw [P.cnE_long hrep.good hlong, P.cnN_long hrep.good hlong] at HCt
      have HL1 := hide (fun wx => long_any _ [q] _ (row_one wx q) (by intro x hx; simp at hx; subst hx; omega))
      rw [P.lgB_one, show decide (40 < (q.size : Int)) = true by simp; omega] at HL1
      clear hrep hlong HTm HCk
      go_wp2_with (first
        | (go_at_call 11; go_must (refine HCt.out.mono ?_); rintro e w4 ⟨rfl, hb4⟩; have HB4 := hide (Below.next HB3.out hb4))
        | (go_at_call 21; go_must (refine (HL1.out _).mono ?_); rintro e w5 ⟨rfl, rfl⟩))
      go_ret
      exact ⟨rfl, HB4.out.alloc HB4.out.size _⟩
    · rw [P.cnE_short hrep.good hlong, P.cnN_short hrep.good hlong] at HCt
      have f1 := hrep.lo q
      have f2 := hrep.hi q
      have f3 := P.tms_bound l q
      have f4 := P.look_nonneg hrep.good.ok.pos q
      have f5 : (k + 1) * S.off ≤ (l.length : Int) := by
        have := hrep.good.acc
        have h2 := P.tot_nonneg hrep.good.ok.pos
        rw [hrep.k, hrep.n] at this
        omega
      have f6 : 0 ≤ (k + 1) * S.off := Int.mul_nonneg (by have := hrep.good.k1; rw [hrep.k] at this; omega) hrep.good.o0
      have f7 := hrep.good.o0
      have f8 := hrep.good.o1
      have f9 : (S.n == (l.length : Int)) = true := by rw [beq_iff_eq]; exact hrep.n
      have g1 : 1 ≤ k := by have := hrep.good.k1; rw [hrep.k] at this; exact this
      have g2 : k ≤ 64 := by have := hrep.good.k2; rw [hrep.k] at this; exact this
      have g3 : P.tms l q ≤ 140737488351232 := by omega
      generalize P.look S.l q = n at *
      generalize P.tms l q = t at *
      have g4 : n + S.off ≤ 9223372036854775807 := by omega
      have g5 : 0 ≤ n + S.off := by omega
      have hm0 : IntKind.i64.wrap (k + 1) = k + 1 := by rw [IntKind.wrap_i64]; omega
      generalize hpr : (k + 1) * S.off = pr at *
      clear hrep hlong
      go_wp2_with (first
        | (go_at_call 11; go_must (refine HCt.out.mono ?_); rintro e w4 ⟨rfl, hb4⟩; have HB4 := hide (Below.next HB3.out hb4); have d0 := keep_cell c0 hb4; have d1 := keep_cell c1 hb4; have d2 := keep_cell c2 hb4; have d3 := keep_cell c3 hb4)
        | (go_at_call 22; go_must (refine (HTm.out _ HB4.out).mono ?_); rintro e w5 ⟨rfl, rfl⟩)
        | (go_at_call 14; go_must (refine (HCk.out _ hb4).mono ?_); rintro e w6 ⟨rfl, hb6⟩))
      go_ret
      exact ⟨rfl, Below.next HB4.out hb6⟩
set_option maxRecDepth 100000 in
theorem lifted_HeavyBound (os : Os) (started : os.Started) (H : Type) (enc : TypeId × Value → H) :
    ReturnsInHanded {} Try.checked os 5 .any (Rows.heavyBoundSpec.pre6 enc Try.prog Try.f5 Rows.heavyBoundRow.domain false) (Rows.heavyBoundSpec.post enc Try.prog Try.f5 false true false false) := by
  refine returnsInHanded_of_change_sized (C := Try.checked) own started (by kernel_rfl) Try.func5
    (ChangeSpec.witness6 (enc := enc) (C := Try.checked) false ⟨#[], #[.int .i64 0, .slice none 0 0, .string ⟨#[]⟩], []⟩ 8 (by kernel_rfl) (by kernel_rfl) (by kernel_rfl) (by kernel_rfl)) ?_
  intro W base args ds gs before hval0 hW hcnd hsz0  _
  have hsz : (DataW.weightsEach Try.prog (Try.f5.params.toList ++ Rows.heavyBoundSpec.plain.varTypes Try.prog) (ds ++ gs)).all (· ≤ reachBytes) = true := hsz0
  have hval : ∀ (j : Nat) t v, Try.f5.params[j]? = some t → args[j]? = some v → Value.okWide Try.prog W .any base t v := hval0
  have hW' := hW
  obtain ⟨p, q, hA0, hV, rfl, hfz, hnd⟩ := hW
  have hA : DataW.TrodAll enc Try.prog W 0 (fun _ => true) true Try.f5.params.toList args.toList ds p := hA0
  rw [Try.params5] at hA hval hsz
  obtain ⟨v0, vs0, d0, ds0, p0, q0, hargs, rfl, rfl, h0, r0⟩ := trodAll_cons hA
  obtain ⟨v1, vs1, d1, ds1, p1, q1, rfl, rfl, rfl, h1, r1⟩ := trodAll_cons r0
  obtain ⟨v2, vs2, d2, ds2, p2, q2, rfl, rfl, rfl, h2, r2⟩ := trodAll_cons r1
  obtain ⟨rfl, rfl, rfl⟩ := trodAll_nil r2
  obtain rfl : args = #[v0, v1, v2] := by cases args; simp_all
  obtain ⟨rfl, rfl⟩ := trodVars_none hV
  have k0 := h0
  have lt0 : ∀ x ∈ p0, x.block < W.heap.size := by obtain ⟨m, hm⟩ := k0; exact DataW.trod_lt m _ _ _ hm
  obtain ⟨a0, rfl, rfl, rfl, w0⟩ := open_int Try.underlying3 (hval 0 3 v0 rfl rfl) h0
  have b0 := bounds_i64 w0
  have k1 := h1
  have lt1 : ∀ x ∈ p1, x.block < W.heap.size := by obtain ⟨m, hm⟩ := k1; exact DataW.trod_lt m _ _ _ hm
  obtain ⟨s1, len1, cap1, rfl⟩ := okWide_slice Try.underlying38 (hval 1 38 v1 rfl rfl)
  obtain ⟨l1, row1, wf1, sh1⟩ := open_texts h1
  have rc1 := row_reachN hsz (j := 1) (t := 38) rfl rfl Try.underlying38 sh1
  rw [bytes9] at rc1
  have k2 := h2
  have lt2 : ∀ x ∈ p2, x.block < W.heap.size := by obtain ⟨m, hm⟩ := k2; exact DataW.trod_lt m _ _ _ hm
  obtain ⟨x2, rfl, rfl, rfl, ws2⟩ := Go.ChangeMaps.open_string Try.underlying9 (hval 2 9 v2 rfl rfl) h2
  have rc2 : x2.size ≤ 140737488351232 := by rw [Lib.size_eq]; exact sized_string hsz (j := 2) (t := 9) rfl rfl
  clear hA0 hval0
  refine (walk_HeavyBound a0 (.slice s1 len1 cap1) l1 x2 W b0.1 b0.2 row1 wf1 rc1 rc2).mono fun e W' ⟨he, bel⟩ => ?_
  subst he
  exact ⟨_, rfl, _, _, _, [], _, [], hW', trodAll_mk1 (shut_bool Try.underlying4 _), (trodAll_cons_mk (Below.trod laidOut (by kernel_rfl) (of_decide_eq_true (by kernel_rfl)) k0 bel lt0) (trodAll_cons_mk (Below.trod laidOut (by kernel_rfl) (of_decide_eq_true (by kernel_rfl)) k1 bel lt1) (trodAll_cons_mk (Below.trod laidOut (by kernel_rfl) (of_decide_eq_true (by kernel_rfl)) k2 bel lt2) trodAll_mk0))), rfl, bel.frame _, fun h => by cases h⟩

theorem proved_HeavyBound : Rows.HeavyBoundSaid :=
  OpenClaim.holds_of_wide 5 Try.f5 rfl rfl rfl rfl rfl rfl rfl ⟨rfl, rfl, rfl, rfl, rfl⟩ rfl rfl rfl rfl rfl (by kernel_rfl) Try.func5 (by kernel_rfl)
    (of_decide_eq_true (by kernel_rfl)) (by unfold Func.isWrapper; first | (rw [if_pos (by decide +kernel)]; kernel_rfl) | (rw [if_neg (by decide +kernel)]; exact ⟨rfl, rfl⟩))
    (fun os started H enc _ => lifted_HeavyBound os started H enc)
#print axioms proved_HeavyBound
end Go.Proofs.Ytcaidfffmllfeaa
