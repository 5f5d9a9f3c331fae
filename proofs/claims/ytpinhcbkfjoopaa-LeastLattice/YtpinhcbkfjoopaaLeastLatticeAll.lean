/- LeastLattice holds: at all inputs the law answers true and changes nothing that was there. -/
import Derived.Test.YtpinhcbkfjoopaaLeBAll
import Derived.Test.YtpinhcbkfjoopaaLeMAAll
import Derived.Test.YtpinhcbkfjoopaaGoodAnyAll
namespace Go.Proofs.Ytpinhcbkfjoopaa
open Go.ChangeShapes Go.WideShapes Go.ChangeAt Go.RowKit
set_option linter.unusedVariables false
/-- The three that come in, boxed. -/
structure Tri (w : World) (va vb vc : Value) (a b c : P.Ls) (W : World) : Prop where
  x : KL W w.heap.size va a
  y : KL W (w.heap.size + 1) vb b
  z : KL W (w.heap.size + 2) vc c
  bel : Below w.heap.size w W
theorem Tri.new {w : World} {va vb vc : Value} {a b c : P.Ls} (ha : RowK .u64 w va a.h) (hb : RowK .u64 w vb b.h) (hc : RowK .u64 w vc c.h) :
    Tri w va vb vc a b c (((w.alloc (.cells #[.int .i64 a.k, va] 24)).alloc (.cells #[.int .i64 b.k, vb] 24)).alloc (.cells #[.int .i64 c.k, vc] 24)) := by
  have hs1 : (w.alloc (.cells #[.int .i64 a.k, va] 24)).heap.size = w.heap.size + 1 := by simp
  have hs2 : ((w.alloc (.cells #[.int .i64 a.k, va] 24)).alloc (.cells #[.int .i64 b.k, vb] 24)).heap.size = w.heap.size + 2 := by simp
  have b1 := below_new w (.cells #[.int .i64 a.k, va] 24)
  have b2 := below_new (w.alloc (.cells #[.int .i64 a.k, va] 24)) (.cells #[.int .i64 b.k, vb] 24)
  have b3 := below_new ((w.alloc (.cells #[.int .i64 a.k, va] 24)).alloc (.cells #[.int .i64 b.k, vb] 24)) (.cells #[.int .i64 c.k, vc] 24)
  have hx : KL (w.alloc (.cells #[.int .i64 a.k, va] 24)) w.heap.size va a := ⟨BoxL.new w va a, ha.below b1 (Nat.le_refl _)⟩
  have hb1 := hb.below b1 (Nat.le_refl _)
  have hy : KL ((w.alloc (.cells #[.int .i64 a.k, va] 24)).alloc (.cells #[.int .i64 b.k, vb] 24)) (w.heap.size + 1) vb b := ⟨by have := BoxL.new (w.alloc (.cells #[.int .i64 a.k, va] 24)) vb b; rw [hs1] at this; exact this, hb1.below b2 (Nat.le_refl _)⟩
  have hc2 := (hc.below b1 (Nat.le_refl _)).below b2 (Nat.le_refl _)
  refine ⟨(hx.below b2).below b3, hy.below b3, ⟨?_, hc2.below b3 (Nat.le_refl _)⟩, ((b1.alloc b1.size _).alloc ?_ _)⟩
  · have := BoxL.new ((w.alloc (.cells #[.int .i64 a.k, va] 24)).alloc (.cells #[.int .i64 b.k, vb] 24)) vc c; rw [hs2] at this; exact this
  · rw [hs2]; omega
theorem Tri.below {w : World} {va vb vc : Value} {a b c : P.Ls} {W W' : World} (h : Tri w va vb vc a b c W) (hb : Below W.heap.size W W') : Tri w va vb vc a b c W' := ⟨h.x.below hb, h.y.below hb, h.z.below hb, Below.next h.bel hb⟩
set_option maxRecDepth 100000 in
set_option maxHeartbeats 16000000 in
theorem walk_LeastLattice (va : Value) (a : P.Ls) (vb : Value) (b : P.Ls) (vc : Value) (c : P.Ls) (w : World) (ha : RowK .u64 w va a.h) (hia : LsI a) (hb : RowK .u64 w vb b.h) (hib : LsI b) (hc : RowK .u64 w vc c.h) (hic : LsI c) :
    Calls Try.prog 6 #[aggL va a, aggL vb b, aggL vc c] w fun e w' => e = .returned (.bool true) ∧ Below w.heap.size w w' := by
  have HSv := hide (fun wx => sieves_any wx)
  have HMg := hide (fun wx va vb a b (h1 : RowK .u64 wx va a.h) (h2 : RowK .u64 wx vb b.h) => Merge_any va vb a b wx h1 h2)
  have HT := hide (Tri.new ha hb hc)
  have hcomm : (mrg a b).2 = 0 → mrg b a = mrg a b := mrg_comm_ok
  have hcomb : (mrg a b).2 ≠ 0 → (mrg b a).2 ≠ 0 ∧ (mrg a b).1 = z0 ∧ (mrg b a).1 = z0 := fun h => ⟨mrg_comm_bad h, mrg_bad h, mrg_bad (mrg_comm_bad h)⟩
  have hagain : (mrg a b).2 = 0 → mrg (mrg a b).1 a = mrg a b := mrg_again
  have hgroup : (mrg a b).2 = 0 → (mrg b c).2 = 0 → (mrg a (mrg b c).1).1 = (mrg (mrg a b).1 c).1 := mrg_groups
  obtain ⟨⟨AB, E1⟩, h1⟩ : ∃ p, mrg a b = p := ⟨_, rfl⟩
  obtain ⟨⟨BA, E2⟩, h2⟩ : ∃ p, mrg b a = p := ⟨_, rfl⟩
  obtain ⟨⟨AG, E3⟩, h3⟩ : ∃ p, mrg AB a = p := ⟨_, rfl⟩
  obtain ⟨⟨BC, E4⟩, h4⟩ : ∃ p, mrg b c = p := ⟨_, rfl⟩
  obtain ⟨⟨X, E5⟩, h5⟩ : ∃ p, mrg AB c = p := ⟨_, rfl⟩
  obtain ⟨⟨Y, E6⟩, h6⟩ : ∃ p, mrg a BC = p := ⟨_, rfl⟩
  rw [h1, h2] at hcomm hcomb
  rw [h1] at hagain hgroup
  rw [h4] at hgroup
  simp only at hcomm hcomb hagain hgroup
  rw [h3] at hagain
  rw [h5, h6] at hgroup
  simp only [Prod.mk.injEq] at hcomm hagain hgroup
  have HE1 := hide h1
  have HE2 := hide h2
  have HE3 := hide h3
  have HE4 := hide h4
  have HE5 := hide h5
  have HE6 := hide h6
  have HComm := hide hcomm
  have HComb := hide hcomb
  have HAgain := hide hagain
  have HGroup := hide hgroup
  obtain ⟨aa, ac, rfl⟩ := ha.shp
  obtain ⟨ba, bc, rfl⟩ := hb.shp
  obtain ⟨ca, cc, rfl⟩ := hc.shp
  clear ha hb hc h1 h2 h3 h4 h5 h6 hcomm hcomb hagain hgroup hia hib hic
  go_enter Try.func6, Try.ntmps6
  go_upto_region 3 with (go_at_call 18; go_must (refine (HSv.out _).mono ?_); rintro e w1 ⟨rfl, hb1⟩)
  have HT1 := hide (HT.out.below hb1)
  clear hb1 HSv HT
  obtain ⟨x0, x1⟩ := HT1.out.x.box.cells
  obtain ⟨y0, y1⟩ := HT1.out.y.box.cells
  have H1 := hide (HMg.out w1 _ _ a b HT1.out.x.row HT1.out.y.row)
  rw [HE1.out] at H1
  simp only at H1
  go_upto_region 4 with (go_at_call 10; go_must (refine H1.out.mono ?_); rintro e w2 ⟨v2, rfl, own2, hb2⟩; obtain ⟨p1, q1, rfl⟩ := own2.shape)
  have hbn := below_new w2 (.cells #[.int .i64 AB.k, .slice p1 AB.h.length q1] 24)
  have HT2 := hide ((HT1.out.below hb2).below hbn)
  have HAB := hide (KL.new (k := AB.k) own2)
  clear hb2 hbn own2 H1 HT1 x0 x1 y0 y1
  generalize w2.heap.size = g1 at *
  generalize w2.alloc (.cells #[.int .i64 AB.k, .slice p1 AB.h.length q1] 24) = W2 at *
  obtain ⟨x0, x1⟩ := HT2.out.x.box.cells
  obtain ⟨y0, y1⟩ := HT2.out.y.box.cells
  have H2 := hide (HMg.out W2 _ _ b a HT2.out.y.row HT2.out.x.row)
  rw [HE2.out] at H2
  simp only at H2
  go_upto_region 5 with (go_at_call 10; go_must (refine H2.out.mono ?_); rintro e w3 ⟨v3, rfl, own3, hb3⟩; obtain ⟨p2, q2, rfl⟩ := own3.shape)
  have hbn := below_new w3 (.cells #[.int .i64 BA.k, .slice p2 BA.h.length q2] 24)
  have HT3 := hide ((HT2.out.below hb3).below hbn)
  have HAB3 := hide ((HAB.out.below hb3).below hbn)
  have HBA := hide (KL.new (k := BA.k) own3)
  clear hb3 hbn own3 H2 HT2 HAB x0 x1 y0 y1
  generalize w3.heap.size = g2 at *
  generalize w3.alloc (.cells #[.int .i64 BA.k, .slice p2 BA.h.length q2] 24) = W3 at *
  by_cases hE1 : E1 = 0
  · obtain ⟨hba, hE2⟩ := HComm.out hE1
    obtain ⟨hag, hE3⟩ := HAgain.out hE1
    have d1 : (E1 != 0) = false := by simp [hE1]
    have d2 : (E2 != 0) = false := by simp [hE2, hE1]
    have d3 : (E3 == 0) = true := by simp [hE3, hE1]
    have HE10 := hide hE1
    rw [hba] at HBA
    clear hba hE1 hE2 hE3
    subst hag
    obtain ⟨x0, x1⟩ := HT3.out.x.box.cells
    obtain ⟨s0, s1⟩ := HAB3.out.box.cells
    have H3 := hide (HMg.out W3 _ _ AG a HAB3.out.row HT3.out.x.row)
    rw [HE3.out] at H3
    simp only at H3
    go_upto_region 8 with (go_at_call 10; go_must (refine H3.out.mono ?_); rintro e w4 ⟨v4, rfl, own4, hb4⟩; obtain ⟨p3, q3, rfl⟩ := own4.shape)
    have hbn := below_new w4 (.cells #[.int .i64 AG.k, .slice p3 AG.h.length q3] 24)
    have HT4 := hide ((HT3.out.below hb4).below hbn)
    have HAB4 := hide ((HAB3.out.below hb4).below hbn)
    have HBA4 := hide ((HBA.out.below hb4).below hbn)
    have HAG := hide (KL.new (k := AG.k) own4)
    clear hb4 hbn own4 H3 HT3 HAB3 HBA x0 x1 s0 s1
    generalize w4.heap.size = g3 at *
    generalize w4.alloc (.cells #[.int .i64 AG.k, .slice p3 AG.h.length q3] 24) = W4 at *
    obtain ⟨y0, y1⟩ := HT4.out.y.box.cells
    obtain ⟨z0', z1'⟩ := HT4.out.z.box.cells
    have H4 := hide (HMg.out W4 _ _ b c HT4.out.y.row HT4.out.z.row)
    rw [HE4.out] at H4
    simp only at H4
    go_upto_region 9 with (go_at_call 10; go_must (refine H4.out.mono ?_); rintro e w5 ⟨v5, rfl, own5, hb5⟩; obtain ⟨p4, q4, rfl⟩ := own5.shape)
    have hbn := below_new w5 (.cells #[.int .i64 BC.k, .slice p4 BC.h.length q4] 24)
    have HT5 := hide ((HT4.out.below hb5).below hbn)
    have HAB5 := hide ((HAB4.out.below hb5).below hbn)
    have HBA5 := hide ((HBA4.out.below hb5).below hbn)
    have HAG5 := hide ((HAG.out.below hb5).below hbn)
    have HBC := hide (KL.new (k := BC.k) own5)
    clear hb5 hbn own5 H4 HT4 HAB4 HBA4 HAG y0 y1 z0' z1'
    generalize w5.heap.size = g4 at *
    generalize w5.alloc (.cells #[.int .i64 BC.k, .slice p4 BC.h.length q4] 24) = W5 at *
    obtain ⟨s0, s1⟩ := HAB5.out.box.cells
    obtain ⟨z0', z1'⟩ := HT5.out.z.box.cells
    have H5 := hide (HMg.out W5 _ _ AG c HAB5.out.row HT5.out.z.row)
    rw [HE5.out] at H5
    simp only at H5
    go_upto_region 10 with (go_at_call 10; go_must (refine H5.out.mono ?_); rintro e w6 ⟨v6, rfl, own6, hb6⟩; obtain ⟨p5, q5, rfl⟩ := own6.shape)
    have hbn := below_new w6 (.cells #[.int .i64 X.k, .slice p5 X.h.length q5] 24)
    have HT6 := hide ((HT5.out.below hb6).below hbn)
    have HAB6 := hide ((HAB5.out.below hb6).below hbn)
    have HBA6 := hide ((HBA5.out.below hb6).below hbn)
    have HAG6 := hide ((HAG5.out.below hb6).below hbn)
    have HBC6 := hide ((HBC.out.below hb6).below hbn)
    have HX := hide (KL.new (k := X.k) own6)
    clear hb6 hbn own6 H5 HT5 HAB5 HBA5 HAG5 HBC s0 s1 z0' z1'
    generalize w6.heap.size = g5 at *
    generalize w6.alloc (.cells #[.int .i64 X.k, .slice p5 X.h.length q5] 24) = W6 at *
    obtain ⟨x0, x1⟩ := HT6.out.x.box.cells
    obtain ⟨t0, t1⟩ := HBC6.out.box.cells
    have H6 := hide (HMg.out W6 _ _ a BC HT6.out.x.row HBC6.out.row)
    rw [HE6.out] at H6
    simp only at H6
    go_upto_region 11 with (go_at_call 10; go_must (refine H6.out.mono ?_); rintro e w7 ⟨v7, rfl, own7, hb7⟩; obtain ⟨p6, q6, rfl⟩ := own7.shape)
    have hbn := below_new w7 (.cells #[.int .i64 Y.k, .slice p6 Y.h.length q6] 24)
    have HB7 := hide ((HT6.out.below hb7).below hbn).bel
    have HAB7 := hide ((HAB6.out.below hb7).below hbn)
    have HBA7 := hide ((HBA6.out.below hb7).below hbn)
    have HAG7 := hide ((HAG6.out.below hb7).below hbn)
    have HX7 := hide ((HX.out.below hb7).below hbn)
    have HY := hide (KL.new (k := Y.k) own7)
    clear hb7 hbn own7 H6 HT6 HAB6 HBA6 HAG6 HBC6 HX x0 x1 t0 t1 HMg
    generalize w7.heap.size = g6 at *
    generalize w7.alloc (.cells #[.int .i64 Y.k, .slice p6 Y.h.length q6] 24) = W7 at *
    -- ab and ba
    obtain ⟨s0, s1⟩ := HAB7.out.box.cells
    obtain ⟨t0, t1⟩ := HBA7.out.box.cells
    have S1 := hide (sameLeast_yes _ _ AG W7 HAB7.out.row HBA7.out.row)
    go_wp2_with fail
    refine S1.out.mono ?_
    rintro e w8 ⟨rfl, hb8⟩
    have HB8 := hide (Below.next HB7.out hb8)
    have HAB8 := hide (HAB7.out.below hb8)
    have HAG8 := hide (HAG7.out.below hb8)
    have HX8 := hide (HX7.out.below hb8)
    have HY8 := hide (HY.out.below hb8)
    clear hb8 S1 HAB7 HBA7 HAG7 HX7 HY s0 s1 t0 t1 HB7
    obtain ⟨s0, s1⟩ := HAG8.out.box.cells
    obtain ⟨t0, t1⟩ := HAB8.out.box.cells
    have S2 := hide (sameLeast_yes _ _ AG w8 HAG8.out.row HAB8.out.row)
    go_wp2_with fail
    refine S2.out.mono ?_
    rintro e w9 ⟨rfl, hb9⟩
    have HB9 := hide (Below.next HB8.out hb9)
    have HX9 := hide (HX8.out.below hb9)
    have HY9 := hide (HY8.out.below hb9)
    clear hb9 S2 HAB8 HAG8 HX8 HY8 s0 s1 t0 t1 HB8
    have hg := good_any _ [E4, E5, E6] _ (row_three w9 E4 E5 E6 26)
    have HGd := hide hg
    have hbn := below_new w9 (.cells #[.int .i64 E4, .int .i64 E5, .int .i64 E6] 26)
    have HB10 := hide (HB9.out.alloc HB9.out.size (.cells #[.int .i64 E4, .int .i64 E5, .int .i64 E6] 26))
    have HX10 := hide (HX9.out.below hbn)
    have HY10 := hide (HY9.out.below hbn)
    clear hg hbn HX9 HY9 HB9
    cases hz : allZ [E4, E5, E6] with
    | false =>
      rw [hz] at HGd
      clear hz
      go_wp2_with fail
      refine HGd.out.mono ?_
      rintro e w10 ⟨rfl, rfl⟩
      go_wp2
      go_ret
      exact ⟨rfl, HB10.out⟩
    | true =>
      rw [hz] at HGd
      have hXY : Y = X := HGroup.out HE10.out (allZ_three hz).1
      subst hXY
      clear hz
      go_wp2_with fail
      refine HGd.out.mono ?_
      rintro e w10 ⟨rfl, hw⟩
      rw [← hw] at HB10 HX10 HY10
      clear hw
      obtain ⟨s0, s1⟩ := HX10.out.box.cells
      obtain ⟨t0, t1⟩ := HY10.out.box.cells
      have S3 := hide (sameLeast_yes _ _ Y w10 HX10.out.row HY10.out.row)
      go_wp2_with fail
      refine S3.out.mono ?_
      rintro e w11 ⟨rfl, hb11⟩
      have HB11 := hide (Below.next HB10.out hb11)
      clear hb11 HB10 S3
      go_wp2
      go_ret
      exact ⟨rfl, HB11.out⟩
  · obtain ⟨hE2, hab, hba⟩ := HComb.out hE1
    have d1 : (E1 != 0) = true := by simpa using hE1
    have d2 : (E2 != 0) = true := by simpa using hE2
    have d3 : (E1 == 0) = false := by simpa using hE1
    have d4 : (E2 == 0) = false := by simpa using hE2
    have HB := hide HT3.out.bel
    obtain ⟨s0, s1⟩ := HAB3.out.box.cells
    obtain ⟨t0, t1⟩ := HBA.out.box.cells
    have hl1 : AB.h.length = 0 := by rw [hab]; rfl
    have hl2 : BA.h.length = 0 := by rw [hba]; rfl
    rw [hl1] at s1
    rw [hl2] at t1
    clear hE1 hE2 hab hba HT3 HAB3 HBA HMg hl1 hl2
    go_wp2
    go_ret
    exact ⟨rfl, HB.out⟩
set_option maxRecDepth 100000 in
theorem lifted_LeastLattice (os : Os) (started : os.Started) (H : Type) (enc : TypeId × Value → H) :
    ReturnsInHanded {} Try.checked os 6 .any (Rows.leastLatticeSpec.pre6 enc Try.prog Try.f6 Rows.leastLatticeRow.domain false) (Rows.leastLatticeSpec.post enc Try.prog Try.f6 false true false false) := by
  refine returnsInHanded_of_change_sized (C := Try.checked) own started (by kernel_rfl) Try.func6
    (ChangeSpec.witness6 (enc := enc) (C := Try.checked) false ⟨#[], #[.agg #[.int .i64 0, .slice none 0 0], .agg #[.int .i64 0, .slice none 0 0], .agg #[.int .i64 0, .slice none 0 0]], []⟩ 8 (by kernel_rfl) (by kernel_rfl) (by kernel_rfl) (by kernel_rfl)) ?_
  intro W base args ds gs before hval0 hW hcnd hsz0  _
  have hsz : (DataW.weightsEach Try.prog (Try.f6.params.toList ++ Rows.leastLatticeSpec.plain.varTypes Try.prog) (ds ++ gs)).all (· ≤ reachBytes) = true := hsz0
  have hval : ∀ (j : Nat) t v, Try.f6.params[j]? = some t → args[j]? = some v → Value.okWide Try.prog W .any base t v := hval0
  have hW' := hW
  obtain ⟨p, q, hA0, hV, rfl, hfz, hnd⟩ := hW
  have hA : DataW.TrodAll enc Try.prog W 0 (fun _ => true) true Try.f6.params.toList args.toList ds p := hA0
  rw [Try.params6] at hA hval hsz
  obtain ⟨v0, vs0, d0, ds0, p0, q0, hargs, rfl, rfl, h0, r0⟩ := trodAll_cons hA
  obtain ⟨v1, vs1, d1, ds1, p1, q1, rfl, rfl, rfl, h1, r1⟩ := trodAll_cons r0
  obtain ⟨v2, vs2, d2, ds2, p2, q2, rfl, rfl, rfl, h2, r2⟩ := trodAll_cons r1
  obtain ⟨rfl, rfl, rfl⟩ := trodAll_nil r2
  obtain rfl : args = #[v0, v1, v2] := by cases args; simp_all
  obtain ⟨rfl, rfl⟩ := trodVars_none hV
  have k0 := h0
  have lt0 : ∀ x ∈ p0, x.block < W.heap.size := by obtain ⟨m, hm⟩ := k0; exact DataW.trod_lt m _ _ _ hm
  obtain ⟨lv0, x0, rfl, rk0, ri0⟩ := open_least (hval 0 24 v0 rfl rfl) h0
  have k1 := h1
  have lt1 : ∀ x ∈ p1, x.block < W.heap.size := by obtain ⟨m, hm⟩ := k1; exact DataW.trod_lt m _ _ _ hm
  obtain ⟨lv1, x1, rfl, rk1, ri1⟩ := open_least (hval 1 24 v1 rfl rfl) h1
  have k2 := h2
  have lt2 : ∀ x ∈ p2, x.block < W.heap.size := by obtain ⟨m, hm⟩ := k2; exact DataW.trod_lt m _ _ _ hm
  obtain ⟨lv2, x2, rfl, rk2, ri2⟩ := open_least (hval 2 24 v2 rfl rfl) h2
  clear hA0 hval0
  refine (walk_LeastLattice lv0 x0 lv1 x1 lv2 x2 W rk0 ri0 rk1 ri1 rk2 ri2).mono fun e W' ⟨he, bel⟩ => ?_
  subst he
  exact ⟨_, rfl, _, _, _, [], _, [], hW', trodAll_mk1 (shut_bool Try.underlying4 _), (trodAll_cons_mk (Below.trod laidOut (by kernel_rfl) (of_decide_eq_true (by kernel_rfl)) k0 bel lt0) (trodAll_cons_mk (Below.trod laidOut (by kernel_rfl) (of_decide_eq_true (by kernel_rfl)) k1 bel lt1) (trodAll_cons_mk (Below.trod laidOut (by kernel_rfl) (of_decide_eq_true (by kernel_rfl)) k2 bel lt2) trodAll_mk0))), rfl, bel.frame _, fun h => by cases h⟩

theorem proved_LeastLattice : Rows.LeastLatticeSaid :=
  OpenClaim.holds_of_wide 6 Try.f6 rfl rfl rfl rfl rfl rfl rfl ⟨rfl, rfl, rfl, rfl, rfl⟩ rfl rfl rfl rfl rfl (by kernel_rfl) Try.func6 (by kernel_rfl)
    (of_decide_eq_true (by kernel_rfl)) (by unfold Func.isWrapper; first | (rw [if_pos (by decide +kernel)]; kernel_rfl) | (rw [if_neg (by decide +kernel)]; exact ⟨rfl, rfl⟩))
    (fun os started H enc _ => lifted_LeastLattice os started H enc)
#print axioms proved_LeastLattice
end Go.Proofs.Ytpinhcbkfjoopaa
