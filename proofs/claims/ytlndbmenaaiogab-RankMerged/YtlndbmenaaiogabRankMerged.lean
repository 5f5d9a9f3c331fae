/- RankMerged holds: at all inputs the law answers true and changes nothing that was there. -/
import Derived.Test.YtlndbmenaaiogabRankT
import Derived.Test.YtlndbmenaaiogabRankW
import Derived.Test.YtlndbmenaaiogabRankLa
import Derived.Test.YtlndbmenaaiogabGood
namespace Go.Proofs.Ytlndbmenaaiogab
open Go.ChangeShapes Go.WideShapes Go.ChangeAt Go.RowKit
set_option linter.unusedVariables false
set_option maxHeartbeats 1000000 in
theorem walk_RankMerged (k : Int) (v : Value) (l : List Int) (u : Value) (m : List Int) (x : Int) (w : World) (_ : -9223372036854775808 ≤ k) (_ : k ≤ 9223372036854775807) (hr : RowK .i64 w v l) (_ : ∀ z ∈ l, -9223372036854775808 ≤ z ∧ z ≤ 9223372036854775807) (hln : l.length * 8 ≤ 140737488351232) (hr2 : RowK .i64 w u m) (_ : ∀ z ∈ m, -9223372036854775808 ≤ z ∧ z ≤ 9223372036854775807) (hln2 : m.length * 8 ≤ 140737488351232) (_ : -9223372036854775808 ≤ x) (_ : x ≤ 9223372036854775807) :
    Calls Try.prog 3 #[.int .i64 k, v, u, .int .i64 x] w fun e w' => e = .returned (.bool true) ∧ Below w.heap.size w w' := by
  have HKs := hide (fun wx (hb : Below w.heap.size w wx) => ranked_any k v l wx (hr.below hb (Nat.le_refl _)))
  have HKt := hide (fun wx (hb : Below w.heap.size w wx) => ranked_any k u m wx (hr2.below hb (Nat.le_refl _)))
  have HRw := hide (fun wx (hb : Below w.heap.size w wx) => hr.below hb (Nat.le_refl _))
  have HRu := hide (fun wx (hb : Below w.heap.size w wx) => hr2.below hb (Nat.le_refl _))
  have hlmax : (l.length : Int) ≤ 17592186043904 := by omega
  have hmmax : (m.length : Int) ≤ 17592186043904 := by omega
  have hl0 : (0 : Int) ≤ (l.length : Int) := by omega
  have hm0 : (0 : Int) ≤ (m.length : Int) := by omega
  obtain ⟨av, cv, rfl⟩ : ∃ a c, v = .slice a l.length c := by obtain ⟨a, c, h, _⟩ := hr; exact ⟨a, c, h⟩
  obtain ⟨au, cu, rfl⟩ : ∃ a c, u = .slice a m.length c := by obtain ⟨a, c, h, _⟩ := hr2; exact ⟨a, c, h⟩
  clear hr hr2
  go_enter Try.func3, Try.ntmps3
  go_wp2_with (go_at_call 6; go_must (refine (ranks_any _).mono ?_); rintro e w1 ⟨rfl, hb1⟩)
  refine (HKs.out _ hb1).mono ?_
  rintro e w2 ⟨tv, lv, A, ok, rfl, own2, p2, p3, hb2⟩
  obtain ⟨⟨xt, yt, rfl⟩, xl, yl, rfl⟩ := own2.shapes
  have HB2 := hide (Below.next hb1 hb2)
  have X1 := BoxR.new w2 (.slice xt A.tail.length yt) (.slice xl A.lv.length yl) A
  have X2 : OwnV (w2.alloc (.cells #[.int .i64 A.k, .slice xt A.tail.length yt, .slice xl A.lv.length yl, .int .i64 A.n, .int .i64 A.sl] 26)) 0 (.slice xt A.tail.length yt) (.slice xl A.lv.length yl) A := own2.below ((Below.refl w2.heap.size w2).alloc (Nat.le_refl _) _) (Nat.le_refl _)
  have HB2' := hide (HB2.out.alloc HB2.out.size (.cells #[.int .i64 A.k, .slice xt A.tail.length yt, .slice xl A.lv.length yl, .int .i64 A.n, .int .i64 A.sl] 26))
  clear hb1 hb2 own2
  go_wp2_with fail
  refine (HKt.out _ HB2'.out).mono ?_
  rintro e w3 ⟨tw, lw, B, too, rfl, own3, p4, p5, hb3⟩
  obtain ⟨⟨xw, yw, rfl⟩, xm, ym, rfl⟩ := own3.shapes
  have HB3 := hide (Below.next HB2'.out hb3)
  have X1' := X1.below hb3
  have X2' := X2.below hb3 (Nat.le_refl _)
  have Z1 := BoxR.new w3 (.slice xw B.tail.length yw) (.slice xm B.lv.length ym) B
  have hZ0 := (Below.refl w3.heap.size w3).alloc (Nat.le_refl _) (.cells #[.int .i64 B.k, .slice xw B.tail.length yw, .slice xm B.lv.length ym, .int .i64 B.n, .int .i64 B.sl] 26)
  have Z2 : OwnV (w3.alloc (.cells #[.int .i64 B.k, .slice xw B.tail.length yw, .slice xm B.lv.length ym, .int .i64 B.n, .int .i64 B.sl] 26)) 0 (.slice xw B.tail.length yw) (.slice xm B.lv.length ym) B := own3.below hZ0 (Nat.le_refl _)
  have Z3 := X1'.below hZ0
  have Z4 := X2'.below hZ0 (Nat.le_refl _)
  have HB4 := hide (HB3.out.alloc HB3.out.size (.cells #[.int .i64 B.k, .slice xw B.tail.length yw, .slice xm B.lv.length ym, .int .i64 B.n, .int .i64 B.sl] 26))
  clear X1 X2 X1' X2' own3
  by_cases hok : ok = true ∧ too = true
  · obtain ⟨rfl, rfl⟩ := hok
    obtain ⟨q1, q2, q3⟩ := p2 rfl
    obtain ⟨r1, r2, r3⟩ := p4 rfl
    clear p2 p3 p4 p5 HKs HKt
    have HQ1 := hide q1
    have HQ2 := hide q2
    have HR2 := hide r2
    have HAB : Hid (A.k = B.k) := q1.trans r1.symm
    have HRp := hide (q3.mg r3 (q1.trans r1.symm))
    have HMk : Hid ((P.mgU A B).k = k) := (P.mgU_k A B).trans q1
    clear q1 q2 q3 r1 r2 r3
    obtain ⟨c0, c1, c2, c3, c4⟩ := Z3.cells
    obtain ⟨d0, d1, d2, d3, d4⟩ := Z1.cells
    have HVa := hide Z4.read
    have HVb := hide Z2.read
    have hZ0' := hide hZ0
    clear Z1 Z2 Z3 Z4 hZ0 hb3
    go_wp2_with fail
    have HMg := hide (Merge_ok _ _ _ _ A B (w3.alloc (.cells #[.int .i64 B.k, .slice xw B.tail.length yw, .slice xm B.lv.length ym, .int .i64 B.n, .int .i64 B.sl] 26)) HVa.out HVb.out HQ2.out HR2.out HAB.out)
    refine HMg.out.mono ?_
    rintro e w5 ⟨m1, m2, hb5⟩
    have HB5 := hide (Below.next HB4.out hb5)
    clear c0 c1 c2 c3 c4 d0 d1 d2 d3 d4 hb5 HMg HVa HVb hZ0'
    generalize P.mgU A B = S at *
    by_cases hbd : P.bndE S = 0
    · obtain ⟨t5, l5, rfl, own5⟩ := m1 hbd
      have hgd := (P.bnd_good HRp.out.mid).1 hbd
      obtain ⟨⟨x5, y5, rfl⟩, z5, q5, rfl⟩ := own5.shapes
      have X1 := BoxR.new w5 (.slice x5 S.tail.length y5) (.slice z5 S.lv.length q5) S
      have X2 : OwnV (w5.alloc (.cells #[.int .i64 S.k, .slice x5 S.tail.length y5, .slice z5 S.lv.length q5, .int .i64 S.n, .int .i64 S.sl] 26)) 0 (.slice x5 S.tail.length y5) (.slice z5 S.lv.length q5) S := own5.below ((Below.refl w5.heap.size w5).alloc (Nat.le_refl _) _) (Nat.le_refl _)
      have HB6 : Hid (Below w.heap.size w (w5.alloc (.cells #[.int .i64 S.k, .slice x5 S.tail.length y5, .slice z5 S.lv.length q5, .int .i64 S.n, .int .i64 S.sl] 26))) := HB5.out.alloc HB5.out.size _
      have HX1 := hide X1
      have HV := hide X2.read
      clear X1 X2 own5 m1 m2 hbd
      have HGS := hide hgd
      have hsk := HRp.out.slack
      have hn := HRp.out.n
      have hwt := HRp.out.wt x
      have hwn := P.wtR_le hgd.1 x
      have hsl0 := hgd.1.sl
      have hsl1 := hgd.2.2
      have hnum := hgd.num
      have hk2 := hgd.1.k2
      have hk64 := hgd.1.k64
      have hlv := hgd.2.1
      have hmk := HMk.out
      rw [hmk] at hsk hk2 hk64 hnum
      obtain ⟨PA, hA⟩ : ∃ PA, PA = 2 * k * S.sl := ⟨_, rfl⟩
      have hA0 : 0 ≤ PA := by rw [hA]; exact Int.mul_nonneg (by omega) hsl0
      rw [← hA] at hsk
      have hn0 : 0 ≤ S.n := by rw [hn]; omega
      have hm : (S.n * (max (S.lv.length - 1) 0 : Nat) : Int) ≤ 1342177280 := by
        have h1 : (S.n * (max (S.lv.length - 1) 0 : Nat) : Int) ≤ 67108864 * 20 := Int.mul_le_mul (by omega) (by omega) (by omega) (by omega)
        omega
      have hAA := hA.symm
      obtain ⟨PM, hM⟩ : ∃ PM, PM = max ((S.lv.length : Int) - 1) 0 := ⟨_, rfl⟩
      have hMM : ((max (S.lv.length - 1) 0 : Nat) : Int) = PM := by rw [hM]; omega
      rw [hMM] at hsk hm
      obtain ⟨PB, hB⟩ : ∃ PB, PB = S.n * PM := ⟨_, rfl⟩
      rw [← hB] at hsk hm
      have hM0 : 0 ≤ PM := by rw [hM]; omega
      have hM1 : PM ≤ 20 := by rw [hM]; omega
      have hM' := hM.symm
      have hB' := hB.symm
      have hl20 : (S.lv.length : Int) ≤ 20 := by omega
      have hk21 : (2 : Int) * k ≤ 128 := by omega
      have hk20 : (0 : Int) ≤ 2 * k := by omega
      have hB0 : 0 ≤ PB := by omega
      have hA1 : PA ≤ 1342177280 := by omega
      have HW := hide (fun wx (hb : Below (w5.alloc (.cells #[.int .i64 S.k, .slice x5 S.tail.length y5, .slice z5 S.lv.length q5, .int .i64 S.n, .int .i64 S.sl] 26)).heap.size (w5.alloc (.cells #[.int .i64 S.k, .slice x5 S.tail.length y5, .slice z5 S.lv.length q5, .int .i64 S.n, .int .i64 S.sl] 26)) wx) => Weight_ok _ _ S x wx (HV.out.below hb (Nat.le_refl _)) HGS.out)
      have HCt := hide (fun wx (hb : Below w.heap.size w wx) => concat_any _ [l, m] _ (by simp) (row_new2 wx _ _ l m (HRw.out wx hb) (HRu.out wx hb)) (by simp [flt]; omega))
      have hfl : flt [l, m] = l ++ m := by simp [flt]
      rw [hfl] at HCt
      have HUp := hide (fun v wx (hr : RowK .i64 wx v (l ++ m)) => upTo_any v (l ++ m) x wx hr)
      have hll : ((l ++ m).length : Int) = (l.length : Int) + m.length := by rw [List.length_append]; omega
      have hna := P.na_le x (l ++ m)
      generalize P.wtR x S = uu at *
      have HSN := hide hn
      have hnn : S.n = (l.length : Int) + m.length := by rw [hn, hll]
      clear hn hnum hfl
      have e2 : (uu : Int) ≤ (P.na x (l ++ m) : Int) := by simpa using hwt.1
      have e3 : (P.na x (l ++ m) : Int) ≤ (uu : Int) + S.sl := by have := hwt.2; simpa using this
      generalize l ++ m = lm at *
      generalize P.na x lm = n at *
      have e1 : (S.n == (l.length : Int) + (m.length : Int)) = true := by rw [beq_iff_eq]; exact hnn
      have e4 : (uu : Int) + S.sl ≤ 9223372036854775807 := by omega
      have e5 : (0 : Int) ≤ (uu : Int) + S.sl := by omega
      obtain ⟨c0, c1, c2, c3, c4⟩ := HX1.out.cells
      clear hwt hnn hll hmk HRp HMk hgd hwn hna hsl1 hA hM hB hMM hlv
      go_wp2_with fail
      generalize (w5.alloc (.cells #[.int .i64 S.k, .slice x5 S.tail.length y5, .slice z5 S.lv.length q5, .int .i64 S.n, .int .i64 S.sl] 26)) = W at *
      refine (HW.out _ (Below.refl _ _)).mono ?_
      rintro e w7 ⟨rfl, hb7⟩
      have f0 := keep_cell c0 hb7; have f1 := keep_cell c1 hb7; have f2 := keep_cell c2 hb7; have f3 := keep_cell c3 hb7; have f4 := keep_cell c4 hb7
      have HB7 := hide (Below.next HB6.out hb7)
      have HCt7 := hide (HCt.out w7 HB7.out)
      clear c0 c1 c2 c3 c4 hb7 HCt HW
      go_wp2_with fail
      refine HCt7.out.mono ?_
      rintro e w8 ⟨v8, rfl, own8, hb8⟩
      obtain ⟨a8, k8, rfl⟩ := OwnK.shape own8
      have HU8 := hide (HUp.out _ _ own8.row)
      have hb78 := ((Below.refl w7.heap.size w7).alloc (Nat.le_refl _) (.cells #[.slice av l.length cv, .slice au m.length cu] 22))
      have g0 := keep_cell (keep_cell f0 hb78) hb8; have g1 := keep_cell (keep_cell f1 hb78) hb8; have g2 := keep_cell (keep_cell f2 hb78) hb8; have g3 := keep_cell (keep_cell f3 hb78) hb8; have g4 := keep_cell (keep_cell f4 hb78) hb8
      have HB8 := hide (Below.next (HB7.out.alloc HB7.out.size (.cells #[.slice av l.length cv, .slice au m.length cu] 22)) hb8)
      have HB9 := hide (HB8.out.alloc HB8.out.size (.cells #[.int .i64 0, .int .i64 0] 29))
      have HGd := hide (good_zeros _ 2 _ (row_two_zeros w8 29))
      have h0 := keep_alloc g0 (.cells #[.int .i64 0, .int .i64 0] 29)
      have h1 := keep_alloc g1 (.cells #[.int .i64 0, .int .i64 0] 29)
      have h2 := keep_alloc g2 (.cells #[.int .i64 0, .int .i64 0] 29)
      have h3 := keep_alloc g3 (.cells #[.int .i64 0, .int .i64 0] 29)
      have h4 := keep_alloc g4 (.cells #[.int .i64 0, .int .i64 0] 29)
      clear f0 f1 f2 f3 f4 own8 hb8 hb78 HUp HCt7
      go_wp2_with (first
        | (go_at_call 10; go_must (refine HU8.out.mono ?_); rintro e w9 ⟨rfl, rfl⟩)
        | (go_at_call 12; go_must (refine HGd.out.mono ?_); rintro e w9 ⟨rfl, rfl⟩))
      go_ret
      exact ⟨rfl, HB9.out⟩
    · have e := m2 hbd
      subst e
      have hbig : (1000 : Int) < (l.length : Int) + m.length := by
        have := P.bnd_many HRp.out hbd
        rw [List.length_append] at this
        omega
      clear m1 m2 hbd
      go_wp2
      go_ret
      exact ⟨rfl, HB5.out.alloc HB5.out.size _⟩
  · have hfail : (ok = false ∨ (ok = true ∧ too = false)) := by cases ok <;> cases too <;> simp at hok ⊢
    have hbd : k < 2 ∨ 64 < k ∨ 1000 < (l.length : Int) + m.length := by
      rcases hfail with h | ⟨_, h⟩
      · have := p3 h; omega
      · have := p5 h; omega
    clear p2 p3 p4 p5 Z1 Z2 Z3 Z4 HKs HKt hok hb3
    rcases hfail with rfl | ⟨rfl, rfl⟩
    all_goals
      by_cases k1 : k < 2
      · go_wp2
        go_ret
        exact ⟨rfl, HB4.out⟩
      · have d1 : decide (k < 2) = false := by simpa using k1
        by_cases k2 : 64 < k
        · go_wp2
          go_ret
          exact ⟨rfl, HB4.out⟩
        · have d2 : decide (64 < k) = false := by simpa using k2
          have d4 : (1000 : Int) < (l.length : Int) + m.length := by omega
          clear hbd k1 k2
          go_wp2
          go_ret
          exact ⟨rfl, HB4.out⟩

set_option maxRecDepth 100000 in
theorem lifted_RankMerged (os : Os) (started : os.Started) (H : Type) (enc : TypeId × Value → H) :
    ReturnsInHanded {} Try.checked os 3 .any (Rows.rankMergedSpec.pre6 enc Try.prog Try.f3 Rows.rankMergedRow.domain false) (Rows.rankMergedSpec.post enc Try.prog Try.f3 false true false false) := by
  refine returnsInHanded_of_change_sized (C := Try.checked) own started (by kernel_rfl) Try.func3
    (ChangeSpec.witness6 (enc := enc) (C := Try.checked) false ⟨#[], #[.int .i64 0, .slice none 0 0, .slice none 0 0, .int .i64 0], []⟩ 8 (by kernel_rfl) (by kernel_rfl) (by kernel_rfl) (by kernel_rfl)) ?_
  intro W base args ds gs before hval0 hW hcnd hsz0  _
  have hsz : (DataW.weightsEach Try.prog (Try.f3.params.toList ++ Rows.rankMergedSpec.plain.varTypes Try.prog) (ds ++ gs)).all (· ≤ reachBytes) = true := hsz0
  have hval : ∀ (j : Nat) t v, Try.f3.params[j]? = some t → args[j]? = some v → Value.okWide Try.prog W .any base t v := hval0
  have hW' := hW
  obtain ⟨p, q, hA0, hV, rfl, hfz, hnd⟩ := hW
  have hA : DataW.TrodAll enc Try.prog W 0 (fun _ => true) true Try.f3.params.toList args.toList ds p := hA0
  rw [Try.params3] at hA hval hsz
  obtain ⟨v0, vs0, d0, ds0, p0, q0, hargs, rfl, rfl, h0, r0⟩ := trodAll_cons hA
  obtain ⟨v1, vs1, d1, ds1, p1, q1, rfl, rfl, rfl, h1, r1⟩ := trodAll_cons r0
  obtain ⟨v2, vs2, d2, ds2, p2, q2, rfl, rfl, rfl, h2, r2⟩ := trodAll_cons r1
  obtain ⟨v3, vs3, d3, ds3, p3, q3, rfl, rfl, rfl, h3, r3⟩ := trodAll_cons r2
  obtain ⟨rfl, rfl, rfl⟩ := trodAll_nil r3
  obtain rfl : args = #[v0, v1, v2, v3] := by cases args; simp_all
  obtain ⟨rfl, rfl⟩ := trodVars_none hV
  have k0 := h0
  have lt0 : ∀ x ∈ p0, x.block < W.heap.size := by obtain ⟨m, hm⟩ := k0; exact DataW.trod_lt m _ _ _ hm
  obtain ⟨a0, rfl, rfl, rfl, w0⟩ := open_int Try.underlying3 (hval 0 3 v0 rfl rfl) h0
  have b0 := bounds_i64 w0
  have k1 := h1
  have lt1 : ∀ x ∈ p1, x.block < W.heap.size := by obtain ⟨m, hm⟩ := k1; exact DataW.trod_lt m _ _ _ hm
  obtain ⟨s1, len1, cap1, rfl⟩ := okWide_slice Try.underlying22 (hval 1 22 v1 rfl rfl)
  obtain ⟨l1, row1, wf1, sh1⟩ := open_row Try.underlying22 Try.underlying2 cells2 h1
  have rc1 := row_reach hsz (j := 1) (t := 22) rfl rfl Try.underlying22 sh1
  rw [bytes2] at rc1
  have k2 := h2
  have lt2 : ∀ x ∈ p2, x.block < W.heap.size := by obtain ⟨m, hm⟩ := k2; exact DataW.trod_lt m _ _ _ hm
  obtain ⟨s2, len2, cap2, rfl⟩ := okWide_slice Try.underlying22 (hval 2 22 v2 rfl rfl)
  obtain ⟨l2, row2, wf2, sh2⟩ := open_row Try.underlying22 Try.underlying2 cells2 h2
  have rc2 := row_reach hsz (j := 2) (t := 22) rfl rfl Try.underlying22 sh2
  rw [bytes2] at rc2
  have k3 := h3
  have lt3 : ∀ x ∈ p3, x.block < W.heap.size := by obtain ⟨m, hm⟩ := k3; exact DataW.trod_lt m _ _ _ hm
  obtain ⟨a3, rfl, rfl, rfl, w3⟩ := open_int Try.underlying2 (hval 3 2 v3 rfl rfl) h3
  have b3 := bounds_i64 w3
  clear hA0 hval0
  refine (walk_RankMerged a0 (.slice s1 len1 cap1) l1 (.slice s2 len2 cap2) l2 a3 W b0.1 b0.2 row1 (fun x hx => bounds_i64 (wf1 x hx)) rc1 row2 (fun x hx => bounds_i64 (wf2 x hx)) rc2 b3.1 b3.2).mono fun e W' ⟨he, bel⟩ => ?_
  subst he
  exact ⟨_, rfl, _, _, _, [], _, [], hW', trodAll_mk1 (shut_bool Try.underlying4 _), (trodAll_cons_mk (Below.trod laidOut (by kernel_rfl) (of_decide_eq_true (by kernel_rfl)) k0 bel lt0) (trodAll_cons_mk (Below.trod laidOut (by kernel_rfl) (of_decide_eq_true (by kernel_rfl)) k1 bel lt1) (trodAll_cons_mk (Below.trod laidOut (by kernel_rfl) (of_decide_eq_true (by kernel_rfl)) k2 bel lt2) (trodAll_cons_mk (Below.trod laidOut (by kernel_rfl) (of_decide_eq_true (by kernel_rfl)) k3 bel lt3) trodAll_mk0)))), rfl, bel.frame _, fun h => by cases h⟩

theorem proved_RankMerged : Rows.RankMergedSaid :=
  OpenClaim.holds_of_wide 3 Try.f3 rfl rfl rfl rfl rfl rfl rfl ⟨rfl, rfl, rfl, rfl, rfl⟩ rfl rfl rfl rfl rfl (by kernel_rfl) Try.func3 (by kernel_rfl)
    (of_decide_eq_true (by kernel_rfl)) (by unfold Func.isWrapper; first | (rw [if_pos (by decide +kernel)]; kernel_rfl) | (rw [if_neg (by decide +kernel)]; exact ⟨rfl, rfl⟩))
    (fun os started H enc _ => lifted_RankMerged os started H enc)
#print axioms proved_RankMerged
end Go.Proofs.Ytlndbmenaaiogab
