/- HeavyFew holds: at all inputs the law answers true and changes nothing that was there. -/
import Derived.Test.YtcaidfffmllfeaaHeavyBadAll
import Derived.Test.YtcaidfffmllfeaaKitTAll
namespace Go.Proofs.Ytcaidfffmllfeaa
open Go.ChangeShapes Go.WideShapes Go.ChangeAt Go.RowKit
set_option linter.unusedVariables false
set_option maxRecDepth 100000 in
set_option maxHeartbeats 2000000 in
theorem walk_HeavyFew (k : Int) (v : Value) (l : List ByteArray) (q : ByteArray) (w : World) (k0 : -9223372036854775808 ≤ k) (k1 : k ≤ 9223372036854775807) (hr : RowT w v l) (hl : TxOk l) (hln : l.length * 16 ≤ 140737488351232) (hq : q.size ≤ 140737488351232) :
    Calls Try.prog 8 #[.int .i64 k, v, .string q] w fun e w' => e = .returned (.bool true) ∧ Below w.heap.size w w' := by
  have HKs := hide (fun wx (hb : Below w.heap.size w wx) => tallied_any k v l wx (hr.below hb (Nat.le_refl _)) hl)
  have HLg := hide (fun wx (hb : Below w.heap.size w wx) => long_any v l wx (hr.below hb (Nat.le_refl _)) hl)
  have HTm := hide (fun wx (hb : Below w.heap.size w wx) => times_any v l q wx (hr.below hb (Nat.le_refl _)) (by omega))
  have HCl := hide (fun wx (hb : Below w.heap.size w wx) => cloneT_any v l wx (hr.below hb (Nat.le_refl _)) (by omega))
  have hlmax : (l.length : Int) ≤ 9223372036854775807 := by omega
  have hqmax : (q.size : Int) ≤ 9223372036854775807 := by omega
  obtain ⟨av, cv, rfl⟩ := hr.shp
  clear hr
  go_enter Try.func8, Try.ntmps8
  go_wp2_with (go_at_call 19; go_must (refine (tallies_any _).mono ?_); rintro e w1 ⟨rfl, hb1⟩)
  refine (HKs.out _ hb1).mono ?_
  rintro e w2 ⟨sv, S, ok, rfl, own2, p2, p3, hb2⟩
  obtain ⟨xt, yt, rfl⟩ := own2.shp ctC_len
  have HB2 := hide (Below.next hb1 hb2)
  clear hb1 hb2
  cases ok with
  | false =>
    have hbd := P.bad_ways (p3 rfl)
    have HB3 := hide (HB2.out.alloc HB2.out.size (.cells #[.int .i64 S.k, .slice xt S.l.length yt, .int .i64 S.n, .int .i64 S.off] 24))
    have HLg2 := hide (HLg.out _ HB3.out)
    clear p2 p3 own2 HKs HTm HLg HCl
    rcases hbd with d1 | ⟨d1, d2⟩ | ⟨d1, d2, d3⟩ | ⟨d1, d2, d3, d4⟩
    · go_wp2
      go_ret
      exact ⟨rfl, HB3.out⟩
    · go_wp2
      go_ret
      exact ⟨rfl, HB3.out⟩
    · rw [d3] at HLg2
      go_wp2_with (go_at_call 21; go_must (refine HLg2.out.mono ?_); rintro e w3 ⟨rfl, rfl⟩)
      go_ret
      exact ⟨rfl, HB3.out⟩
    · rw [d3] at HLg2
      have d5 : decide ((1000000000 : Int) < (l.length : Int)) = true := by simpa using d4
      go_wp2_with (go_at_call 21; go_must (refine HLg2.out.mono ?_); rintro e w3 ⟨rfl, rfl⟩)
      go_ret
      exact ⟨rfl, HB3.out⟩
  | true =>
    have hrep := p2 rfl
    clear p2 p3 HKs HLg
    have HB3 : Hid (Below w.heap.size w (w2.alloc (.cells #[.int .i64 S.k, .slice xt S.l.length yt, .int .i64 S.n, .int .i64 S.off] 24))) := HB2.out.alloc HB2.out.size _
    have X1 : BoxH (w2.alloc (.cells #[.int .i64 S.k, .slice xt S.l.length yt, .int .i64 S.n, .int .i64 S.off] 24)) w2.heap.size (.slice xt S.l.length yt) S := BoxH.new w2 _ S
    have X2 : RowC (w2.alloc (.cells #[.int .i64 S.k, .slice xt S.l.length yt, .int .i64 S.n, .int .i64 S.off] 24)) (.slice xt S.l.length yt) S.l := own2.row.alloc _
    have HCt := hide (fun wx (hb : Below (w2.alloc (.cells #[.int .i64 S.k, .slice xt S.l.length yt, .int .i64 S.n, .int .i64 S.off] 24)).heap.size (w2.alloc (.cells #[.int .i64 S.k, .slice xt S.l.length yt, .int .i64 S.n, .int .i64 S.off] 24)) wx) => Count_any (.slice xt S.l.length yt) S q wx (X2.below hb (Nat.le_refl _)) hrep.good.hvI (by omega))
    have HCl2 := hide (HCl.out _ HB3.out)
    have HX1 := hide X1
    have HSo := hide (fun w base v h => sortT_own w base v (txb l) h (by simp [txb]; omega))
    have HCo := hide (fun w base v h => compactT_own w base v (srtT (txb l)) h)
    have hfew := hrep.few ((Lib.compact (srtT (txb l))).map fun u => (⟨u.toArray⟩ : ByteArray)) (fun x hx => compact_all hx)
    rw [List.length_map] at hfew
    have hcl : ((Lib.compact (srtT (txb l))).length : Int) ≤ 9223372036854775807 := by
      have h1 := Lib.compact_length_le (srtT (txb l))
      rw [srtT_len] at h1
      have h2 : (txb l).length = l.length := by simp [txb]
      omega
    generalize (Lib.compact (srtT (txb l))).length = C at *
    obtain ⟨c0, c1, c2, c3⟩ := X1.cells
    clear X1 X2 own2 HCl
    go_upto_region 6 with fail
    generalize (w2.alloc (.cells #[.int .i64 S.k, .slice xt S.l.length yt, .int .i64 S.n, .int .i64 S.off] 24)) = W at *
    go_upto_region 8 with (first
      | (go_at_call 23; go_must (refine HCl2.out.mono ?_); rintro e w4 ⟨v4, rfl, own4, hb4⟩)
      | (go_at_call 24; go_must (refine (HSo.out _ _ _ own4).mono ?_); rintro e w5 ⟨rfl, own5, hg5⟩))
    have hb5 : Below W.heap.size W w5 := below_ownT hb4 own4 hg5
    have HC5 := hide ((HCo.out _ _ _ own5).mono fun e w' (h : ∃ a c, e = .returned (.slice a C c) ∧ w5.grownBy w' v4.ownBlock) => (show ∃ a c, e = .returned (.slice a C c) ∧ Below W.heap.size W w' from by obtain ⟨a, c, h1, h2⟩ := h; exact ⟨a, c, h1, below_ownT hb5 own5 h2⟩))
    clear own4 own5 hg5 hb4 hb5 HCl2 HSo HCo
    by_cases hC : (C : Int) ≤ k
    · have h0 := hfew hC
      have hd : decide (k < (C : Int)) = false := by simpa using hC
      have hoff : (S.off == 0) = true := by simpa using h0
      by_cases hlong : 40 < q.size
      · rw [P.cnE_long hrep.good hlong, P.cnN_long hrep.good hlong] at HCt
        clear hrep hlong HTm hfew hC h0
        go_wp2_with (first
          | (go_at_call 25; go_must (refine HC5.out.mono ?_); rintro e w6 ⟨a6, k6, rfl, hb6⟩; have HB6 := hide hb6; have y0 := keep_cell c0 hb6; have y1 := keep_cell c1 hb6; have y2 := keep_cell c2 hb6; have y3 := keep_cell c3 hb6)
          | (go_at_call 11; go_must (refine (HCt.out _ HB6.out).mono ?_); rintro e w7 ⟨rfl, hb7⟩; have hb8 : Below W.heap.size W w7 := Below.next HB6.out hb7; have d0 := keep_cell c0 hb8; have d1 := keep_cell c1 hb8; have d2 := keep_cell c2 hb8; have d3 := keep_cell c3 hb8; have HB8 := hide (Below.next HB3.out hb8)))
        go_ret
        exact ⟨rfl, HB8.out⟩
      · rw [P.cnE_short hrep.good hlong, P.cnN_short hrep.good hlong] at HCt
        have f1 := hrep.lo q
        have f2 := hrep.hi q
        have e1 : (P.look S.l q == P.tms l q) = true := by rw [beq_iff_eq]; omega
        generalize P.look S.l q = n at *
        generalize P.tms l q = t at *
        clear hrep hlong hfew hC h0 f1 f2
        go_wp2_with (first
          | (go_at_call 25; go_must (refine HC5.out.mono ?_); rintro e w6 ⟨a6, k6, rfl, hb6⟩; have HB6 := hide hb6; have y0 := keep_cell c0 hb6; have y1 := keep_cell c1 hb6; have y2 := keep_cell c2 hb6; have y3 := keep_cell c3 hb6)
          | (go_at_call 11; go_must (refine (HCt.out _ HB6.out).mono ?_); rintro e w7 ⟨rfl, hb7⟩; have hb8 : Below W.heap.size W w7 := Below.next HB6.out hb7; have d0 := keep_cell c0 hb8; have d1 := keep_cell c1 hb8; have d2 := keep_cell c2 hb8; have d3 := keep_cell c3 hb8; have HB8 := hide (Below.next HB3.out hb8))
          | (go_at_call 22; go_must (refine (HTm.out _ HB8.out).mono ?_); rintro e w9 ⟨rfl, rfl⟩))
        go_ret
        exact ⟨rfl, HB8.out⟩
    · have hd : decide (k < (C : Int)) = true := by simpa using hC
      clear hrep HTm hfew hC HCt
      go_wp2_with (go_at_call 25; go_must (refine HC5.out.mono ?_); rintro e w6 ⟨a6, k6, rfl, hb6⟩; have HB6 := hide hb6)
      go_ret
      exact ⟨rfl, Below.next HB3.out HB6.out⟩
set_option maxRecDepth 100000 in
theorem lifted_HeavyFew (os : Os) (started : os.Started) (H : Type) (enc : TypeId × Value → H) :
    ReturnsInHanded {} Try.checked os 8 .any (Rows.heavyFewSpec.pre6 enc Try.prog Try.f8 Rows.heavyFewRow.domain false) (Rows.heavyFewSpec.post enc Try.prog Try.f8 false true false false) := by
  refine returnsInHanded_of_change_sized (C := Try.checked) own started (by kernel_rfl) Try.func8
    (ChangeSpec.witness6 (enc := enc) (C := Try.checked) false ⟨#[], #[.int .i64 0, .slice none 0 0, .string ⟨#[]⟩], []⟩ 8 (by kernel_rfl) (by kernel_rfl) (by kernel_rfl) (by kernel_rfl)) ?_
  intro W base args ds gs before hval0 hW hcnd hsz0  _
  have hsz : (DataW.weightsEach Try.prog (Try.f8.params.toList ++ Rows.heavyFewSpec.plain.varTypes Try.prog) (ds ++ gs)).all (· ≤ reachBytes) = true := hsz0
  have hval : ∀ (j : Nat) t v, Try.f8.params[j]? = some t → args[j]? = some v → Value.okWide Try.prog W .any base t v := hval0
  have hW' := hW
  obtain ⟨p, q, hA0, hV, rfl, hfz, hnd⟩ := hW
  have hA : DataW.TrodAll enc Try.prog W 0 (fun _ => true) true Try.f8.params.toList args.toList ds p := hA0
  rw [Try.params8] at hA hval hsz
  obtain ⟨v0, vs0, d0, ds0, p0, q0, hargs, rfl, rfl, h0, r0⟩ := trodAll_cons hA
  obtain ⟨v1, vs1, d1, ds1, p1, q1, rfl, rfl, rfl, h1, r1⟩ := trodAll_cons r0
  obtain ⟨v2, vs2, d2, ds2, p2, q2, rfl, rfl, rfl, h2, r2⟩ := trodAll_cons r1
  obtain ⟨rfl, rfl, rfl⟩ := trodAll_nil r2
  obtain rfl : args = #[v0, v1, v2] := by cases args; simp_all
  obtain ⟨rfl, rfl⟩ := trodVars_none hV
  have k0 := h0
  have lt0 : ∀ x ∈ p0, x.block < W.heap.size := by obtain ⟨m, hm⟩ := k0; exact DataW.trod_lt m _ _ _ hm
  obtain ⟨a0, rfl, rfl, rfl, w0⟩ := open_int Try.underlying3 (hval 0 3 v0 rfl rfl) h0
  have b0 := bounds_i64 w0
  have k1 := h1
  have lt1 : ∀ x ∈ p1, x.block < W.heap.size := by obtain ⟨m, hm⟩ := k1; exact DataW.trod_lt m _ _ _ hm
  obtain ⟨s1, len1, cap1, rfl⟩ := okWide_slice Try.underlying38 (hval 1 38 v1 rfl rfl)
  obtain ⟨l1, row1, wf1, sh1⟩ := open_texts h1
  have rc1 := row_reachN hsz (j := 1) (t := 38) rfl rfl Try.underlying38 sh1
  rw [bytes9] at rc1
  have k2 := h2
  have lt2 : ∀ x ∈ p2, x.block < W.heap.size := by obtain ⟨m, hm⟩ := k2; exact DataW.trod_lt m _ _ _ hm
  obtain ⟨x2, rfl, rfl, rfl, ws2⟩ := Go.ChangeMaps.open_string Try.underlying9 (hval 2 9 v2 rfl rfl) h2
  have rc2 : x2.size ≤ 140737488351232 := by rw [Lib.size_eq]; exact sized_string hsz (j := 2) (t := 9) rfl rfl
  clear hA0 hval0
  refine (walk_HeavyFew a0 (.slice s1 len1 cap1) l1 x2 W b0.1 b0.2 row1 wf1 rc1 rc2).mono fun e W' ⟨he, bel⟩ => ?_
  subst he
  exact ⟨_, rfl, _, _, _, [], _, [], hW', trodAll_mk1 (shut_bool Try.underlying4 _), (trodAll_cons_mk (Below.trod laidOut (by kernel_rfl) (of_decide_eq_true (by kernel_rfl)) k0 bel lt0) (trodAll_cons_mk (Below.trod laidOut (by kernel_rfl) (of_decide_eq_true (by kernel_rfl)) k1 bel lt1) (trodAll_cons_mk (Below.trod laidOut (by kernel_rfl) (of_decide_eq_true (by kernel_rfl)) k2 bel lt2) trodAll_mk0))), rfl, bel.frame _, fun h => by cases h⟩

theorem proved_HeavyFew : Rows.HeavyFewSaid :=
  OpenClaim.holds_of_wide 8 Try.f8 rfl rfl rfl rfl rfl rfl rfl ⟨rfl, rfl, rfl, rfl, rfl⟩ rfl rfl rfl rfl rfl (by kernel_rfl) Try.func8 (by kernel_rfl)
    (of_decide_eq_true (by kernel_rfl)) (by unfold Func.isWrapper; first | (rw [if_pos (by decide +kernel)]; kernel_rfl) | (rw [if_neg (by decide +kernel)]; exact ⟨rfl, rfl⟩))
    (fun os started H enc _ => lifted_HeavyFew os started H enc)
#print axioms proved_HeavyFew
end Go.Proofs.Ytcaidfffmllfeaa
