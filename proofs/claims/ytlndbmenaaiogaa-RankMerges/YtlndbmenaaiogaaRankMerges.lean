/- RankMerges holds: at all two ranks the law answers true and changes nothing that was there. -/
import Derived.Test.YtlndbmenaaiogaaRefRkX
import Derived.Test.YtlndbmenaaiogaaRankAdds0
namespace Go.Proofs.Ytlndbmenaaiogaa
open Go.ChangeShapes Go.WideShapes Go.ChangeAt Go.RowKit
set_option linter.unusedVariables false
theorem P.mgE_cases (a b : P.Rk) : (¬ P.Good a ∧ P.mgE a b = 4) ∨ (P.Good a ∧ ¬ P.Good b ∧ P.mgE a b = 4) ∨ (P.Good a ∧ P.Good b ∧ a.k ≠ b.k ∧ P.mgE a b = 1) ∨ (P.Good a ∧ P.Good b ∧ a.k = b.k ∧ P.mgE a b = 0) := by
  unfold P.mgE
  by_cases h1 : P.Good a
  · by_cases h2 : P.Good b
    · by_cases h3 : a.k = b.k
      · simp [h1, h2, h3]
      · simp [h1, h2, h3]
    · simp [h1, h2]
  · simp [h1]
/-- Merge in one contract. -/
theorem Merge_any (ta la tb lb : Value) (a b : P.Rk) (w : World) (ha : RkV w ta la a) (hb : RkV w tb lb b) : Calls Try.prog 16 #[aggR ta la a, aggR tb lb b] w fun e w' => ∃ (ts ls : Value) (S : P.Rk) (er : Int), e = .returned (.tuple #[aggR ts ls S, .int .i64 er]) ∧ RkV w' ts ls S ∧ Below w.heap.size w w' ∧
    (P.mgE a b ≠ 0 → S = ⟨0, [], [], 0, 0⟩ ∧ er = P.mgE a b) ∧ (P.mgE a b = 0 → P.bndE (P.mgU a b) = 0 → S = P.mgU a b ∧ er = 0) ∧ (P.mgE a b = 0 → P.bndE (P.mgU a b) ≠ 0 → S = ⟨0, [], [], 0, 0⟩ ∧ er = 2) := by
  by_cases he : P.mgE a b = 0
  · rcases P.mgE_cases a b with ⟨_, h⟩ | ⟨_, _, h⟩ | ⟨_, _, _, h⟩ | ⟨h1, h2, h3, h⟩
    · rw [he] at h; cases h
    · rw [he] at h; cases h
    · rw [he] at h; cases h
    · refine (Merge_ok ta la tb lb a b w ha hb h1 h2 h3).mono ?_
      rintro e w' ⟨m1, m2, hbw⟩
      by_cases h0 : P.bndE (P.mgU a b) = 0
      · obtain ⟨ts, ls, rfl, ho⟩ := m1 h0
        exact ⟨ts, ls, _, 0, rfl, ho.read, hbw, fun hn => absurd he hn, fun _ _ => ⟨rfl, rfl⟩, fun _ hn => absurd h0 hn⟩
      · have e := m2 h0
        subst e
        exact ⟨_, _, ⟨0, [], [], 0, 0⟩, 2, rfl, RkV.zero _ _ _ _, hbw, fun hn => absurd he hn, fun _ hn => absurd hn h0, fun _ _ => ⟨rfl, rfl⟩⟩
  · refine (Merge_err ta la tb lb a b w ha hb he).mono ?_
    rintro e w' ⟨rfl, hbw⟩
    exact ⟨_, _, ⟨0, [], [], 0, 0⟩, _, rfl, RkV.zero _ _ _ _, hbw, fun _ => ⟨rfl, rfl⟩, fun hn => absurd hn he, fun hn => absurd hn he⟩
set_option maxHeartbeats 2000000 in
set_option maxRecDepth 100000 in
theorem walk_RankMerges (ta la : Value) (a : P.Rk) (tb lb : Value) (b : P.Rk) (w : World) (ha : RkV w ta la a) (hia : RkI a) (hb : RkV w tb lb b) (hib : RkI b) :
    Calls Try.prog 4 #[aggR ta la a, aggR tb lb b] w fun e w' => e = .returned (.bool true) ∧ Below w.heap.size w w' := by
  have HM := hide (fun wx (hx : Below w.heap.size w wx) => Merge_any ta la tb lb a b wx (ha.below hx (Nat.le_refl _)) (hb.below hx (Nat.le_refl _)))
  have HFa := hide (fun wx (hx : Below w.heap.size w wx) => rankFault_any ta la a wx (ha.below hx (Nat.le_refl _)))
  have HFb := hide (fun wx (hx : Below w.heap.size w wx) => rankFault_any tb lb b wx (hb.below hx (Nat.le_refl _)))
  have HRm := hide (fun wx (hx : Below w.heap.size w wx) h1 h2 h3 => ranksMerged_any ta la tb lb a b wx (ha.below hx (Nat.le_refl _)) (hb.below hx (Nat.le_refl _)) h1 h2 h3)
  obtain ⟨tA, cA, rfl, _, _⟩ := ha.tail.nil_of
  obtain ⟨lA, dA, rfl, _⟩ := ha.lv
  obtain ⟨tB, cB, rfl, _, _⟩ := hb.tail.nil_of
  obtain ⟨lB, dB, rfl, _⟩ := hb.lv
  have hB : Below w.heap.size w ((w.alloc (.cells #[.int .i64 a.k, (.slice tA a.tail.length cA), (.slice lA a.lv.length dA), .int .i64 a.n, .int .i64 a.sl] 25)).alloc (.cells #[.int .i64 b.k, (.slice tB b.tail.length cB), (.slice lB b.lv.length dB), .int .i64 b.n, .int .i64 b.sl] 25)) := ((Below.refl _ w).alloc (Nat.le_refl _) _).alloc (by simp) _
  have hX1 : BoxR ((w.alloc (.cells #[.int .i64 a.k, (.slice tA a.tail.length cA), (.slice lA a.lv.length dA), .int .i64 a.n, .int .i64 a.sl] 25)).alloc (.cells #[.int .i64 b.k, (.slice tB b.tail.length cB), (.slice lB b.lv.length dB), .int .i64 b.n, .int .i64 b.sl] 25)) w.heap.size (.slice tA a.tail.length cA) (.slice lA a.lv.length dA) a :=
    BoxR.below (BoxR.new w _ _ a) ((Below.refl _ _).alloc (Nat.le_refl _) _)
  have hX2 : BoxR ((w.alloc (.cells #[.int .i64 a.k, (.slice tA a.tail.length cA), (.slice lA a.lv.length dA), .int .i64 a.n, .int .i64 a.sl] 25)).alloc (.cells #[.int .i64 b.k, (.slice tB b.tail.length cB), (.slice lB b.lv.length dB), .int .i64 b.n, .int .i64 b.sl] 25)) (w.heap.size + 1) (.slice tB b.tail.length cB) (.slice lB b.lv.length dB) b := by
    have := BoxR.new (w.alloc (.cells #[.int .i64 a.k, (.slice tA a.tail.length cA), (.slice lA a.lv.length dA), .int .i64 a.n, .int .i64 a.sl] 25)) (.slice tB b.tail.length cB) (.slice lB b.lv.length dB) b
    simpa using this
  have HB := hide hB
  have HX1 := hide hX1
  have HX2 := hide hX2
  obtain ⟨a0, a1, a2, a3, a4⟩ := hX1.cells
  obtain ⟨b0, b1, b2, b3, b4⟩ := hX2.cells
  have HC := hide (P.mgE_cases a b)
  clear ha hb hia hib hB hX1 hX2
  go_enter Try.func4, Try.ntmps4
  go_upto_region 2 with (go_at_call 16; go_must (refine (HM.out _ HB.out).mono ?_); rintro e w3 ⟨ts, ls, S, er, rfl, hrs, hb3, hM1, hM2, hM3⟩; obtain ⟨tx, ty, hts, _⟩ := hrs.tail.nil_of; obtain ⟨lx, ly, hls, _⟩ := hrs.lv; subst hts hls)
  have hA4 : Below w3.heap.size w3 (w3.alloc (.cells #[.int .i64 S.k, .slice tx S.tail.length ty, .slice lx S.lv.length ly, .int .i64 S.n, .int .i64 S.sl] 25)) := (Below.refl _ w3).alloc (Nat.le_refl _) _
  have HX1' := hide ((HX1.out.below hb3).below hA4)
  have HX2' := hide ((HX2.out.below hb3).below hA4)
  have HXS := hide (BoxR.new w3 (.slice tx S.tail.length ty) (.slice lx S.lv.length ly) S)
  have HRs := hide (hrs.below hA4 (Nat.le_refl _))
  have HB4 := hide (Below.next (Below.next HB.out hb3) hA4)
  have HM1 := hide hM1
  have HM2 := hide hM2
  have HM3 := hide hM3
  clear a0 a1 a2 a3 a4 b0 b1 b2 b3 b4 hb3 hA4 hrs hM1 hM2 hM3 HX1 HX2 HB HM
  generalize w3.heap.size = gs at *
  generalize (w3.alloc (.cells #[.int .i64 S.k, .slice tx S.tail.length ty, .slice lx S.lv.length ly, .int .i64 S.n, .int .i64 S.sl] 25)) = W at *
  generalize P.mgE a b = me at *
  obtain ⟨a0, a1, a2, a3, a4⟩ := HX1'.out.cells
  rcases HC.out with ⟨g1, rfl⟩ | ⟨g1, g2, rfl⟩ | ⟨g1, g2, g3, rfl⟩ | ⟨g1, g2, g3, rfl⟩
  · rw [P.chkR_not g1] at HFa
    obtain ⟨rfl, rfl⟩ := HM1.out (by decide)
    have HX14 := HX1'
    have HX24 := HX2'
    have HXS4 := HXS
    have HRs4 := HRs
    clear HX1' HX2' HXS HRs
    clear g1 HC HM1 HM2 HM3 HFb HRm
    go_wp2_with fail
    refine (HFa.out _ HB4.out).mono ?_
    rintro e w5 ⟨rfl, hb5⟩
    have HXS5 := hide (HXS4.out.below hb5)
    have HRs5 := hide (HRs4.out.below hb5 (Nat.le_refl _))
    have HB5 := hide (Below.next HB4.out hb5)
    clear a0 a1 a2 a3 a4 HX14 HX24 HXS4 HRs4 HB4 hb5 HFa
    have HSm := hide (sameRank_yes _ _ _ _ _ _ HRs5.out (RkV.zero w5 0 0 0))
    obtain ⟨c0, c1, c2, c3, c4⟩ := HXS5.out.cells
    go_wp2_with (go_at_call 11; go_must (refine HSm.out.mono ?_); rintro e w10 ⟨rfl, hb10⟩)
    go_ret
    exact ⟨rfl, Below.next HB5.out hb10⟩
  · rw [P.chkR_ok g1] at HFa
    rw [P.chkR_not g2] at HFb
    obtain ⟨rfl, rfl⟩ := HM1.out (by decide)
    have HX14 := HX1'
    have HX24 := HX2'
    have HXS4 := HXS
    have HRs4 := HRs
    clear HX1' HX2' HXS HRs
    clear g1 g2 HC HM1 HM2 HM3 HRm
    go_wp2_with fail
    refine (HFa.out _ HB4.out).mono ?_
    rintro e w5 ⟨rfl, hb5⟩
    have HX25 := hide (HX24.out.below hb5)
    have HXS5 := hide (HXS4.out.below hb5)
    have HRs5 := hide (HRs4.out.below hb5 (Nat.le_refl _))
    have HB5 := hide (Below.next HB4.out hb5)
    clear a0 a1 a2 a3 a4 HX14 HX24 HXS4 HRs4 HB4 hb5 HFa
    obtain ⟨b0, b1, b2, b3, b4⟩ := HX25.out.cells
    go_wp2_with fail
    refine (HFb.out _ HB5.out).mono ?_
    rintro e w6 ⟨rfl, hb6⟩
    have HXS6 := hide (HXS5.out.below hb6)
    have HRs6 := hide (HRs5.out.below hb6 (Nat.le_refl _))
    have HB6 := hide (Below.next HB5.out hb6)
    clear b0 b1 b2 b3 b4 HX25 HXS5 HRs5 HB5 hb6 HFb
    have HSm := hide (sameRank_yes _ _ _ _ _ _ HRs6.out (RkV.zero w6 0 0 0))
    obtain ⟨c0, c1, c2, c3, c4⟩ := HXS6.out.cells
    go_wp2_with (go_at_call 11; go_must (refine HSm.out.mono ?_); rintro e w10 ⟨rfl, hb10⟩)
    go_ret
    exact ⟨rfl, Below.next HB6.out hb10⟩
  · rw [P.chkR_ok g1] at HFa
    rw [P.chkR_ok g2] at HFb
    obtain ⟨rfl, rfl⟩ := HM1.out (by decide)
    have hkk : (a.k != b.k) = true := by rw [bne_iff_ne]; exact g3
    have HX14 := HX1'
    have HX24 := HX2'
    have HXS4 := HXS
    have HRs4 := HRs
    clear HX1' HX2' HXS HRs
    clear g1 g2 g3 HC HM1 HM2 HM3 HRm
    go_wp2_with fail
    refine (HFa.out _ HB4.out).mono ?_
    rintro e w5 ⟨rfl, hb5⟩
    have HX15 := hide (HX14.out.below hb5)
    have HX25 := hide (HX24.out.below hb5)
    have HXS5 := hide (HXS4.out.below hb5)
    have HRs5 := hide (HRs4.out.below hb5 (Nat.le_refl _))
    have HB5 := hide (Below.next HB4.out hb5)
    clear a0 a1 a2 a3 a4 HX14 HX24 HXS4 HRs4 HB4 hb5 HFa
    obtain ⟨b0, b1, b2, b3, b4⟩ := HX25.out.cells
    go_wp2_with fail
    refine (HFb.out _ HB5.out).mono ?_
    rintro e w6 ⟨rfl, hb6⟩
    have HX16 := hide (HX15.out.below hb6)
    have HX26 := hide (HX25.out.below hb6)
    have HXS6 := hide (HXS5.out.below hb6)
    have HRs6 := hide (HRs5.out.below hb6 (Nat.le_refl _))
    have HB6 := hide (Below.next HB5.out hb6)
    clear b0 b1 b2 b3 b4 HX15 HX25 HXS5 HRs5 HB5 hb6 HFb
    obtain ⟨a0, _, _, _, _⟩ := HX16.out.cells
    obtain ⟨b0, _, _, _, _⟩ := HX26.out.cells
    have HSm := hide (sameRank_yes _ _ _ _ _ _ HRs6.out (RkV.zero w6 0 0 0))
    obtain ⟨c0, c1, c2, c3, c4⟩ := HXS6.out.cells
    go_wp2_with (go_at_call 11; go_must (refine HSm.out.mono ?_); rintro e w10 ⟨rfl, hb10⟩)
    go_ret
    exact ⟨rfl, Below.next HB6.out hb10⟩
  · rw [P.chkR_ok g1] at HFa
    rw [P.chkR_ok g2] at HFb
    have HM2' := hide (HM2.out rfl)
    have HM3' := hide (HM3.out rfl)
    have HRm' := hide (fun wx hx => HRm.out wx hx g1 g2 g3)
    have hkk : (a.k != b.k) = false := by rw [bne_eq_false_iff_eq]; exact g3
    have HX14 := HX1'
    have HX24 := HX2'
    have HXS4 := HXS
    have HRs4 := HRs
    clear HX1' HX2' HXS HRs
    clear g1 g2 g3 HC HM1 HM2 HM3 HRm
    go_wp2_with fail
    refine (HFa.out _ HB4.out).mono ?_
    rintro e w5 ⟨rfl, hb5⟩
    have HX15 := hide (HX14.out.below hb5)
    have HX25 := hide (HX24.out.below hb5)
    have HXS5 := hide (HXS4.out.below hb5)
    have HRs5 := hide (HRs4.out.below hb5 (Nat.le_refl _))
    have HB5 := hide (Below.next HB4.out hb5)
    clear a0 a1 a2 a3 a4 HX14 HX24 HXS4 HRs4 HB4 hb5 HFa
    obtain ⟨b0, b1, b2, b3, b4⟩ := HX25.out.cells
    go_wp2_with fail
    refine (HFb.out _ HB5.out).mono ?_
    rintro e w6 ⟨rfl, hb6⟩
    have HX16 := hide (HX15.out.below hb6)
    have HX26 := hide (HX25.out.below hb6)
    have HXS6 := hide (HXS5.out.below hb6)
    have HRs6 := hide (HRs5.out.below hb6 (Nat.le_refl _))
    have HB6 := hide (Below.next HB5.out hb6)
    clear b0 b1 b2 b3 b4 HX15 HX25 HXS5 HRs5 HB5 hb6 HFb
    obtain ⟨a0, a1, a2, a3, a4⟩ := HX16.out.cells
    obtain ⟨b0, b1, b2, b3, b4⟩ := HX26.out.cells
    go_wp2_with fail
    refine (HRm'.out _ HB6.out).mono ?_
    rintro e w8 ⟨t8, l8, rfl, hrd8, hb8⟩
    have hrk8 := hrd8.read hb8
    have HXS8 := hide (HXS6.out.below hb8)
    have HRs8 := hide (HRs6.out.below hb8 (Nat.le_refl _))
    have HB8 := hide (Below.next HB6.out hb8)
    have HBn := hide (rankBounds_any t8 l8 _ w8 hrk8)
    clear a0 a1 a2 a3 a4 b0 b1 b2 b3 b4 HX16 HX26 HXS6 HRs6 HB6 hb8 hrd8 hrk8 HRm'
    generalize P.mgU a b = R at *
    go_wp2_with fail
    refine HBn.out.mono ?_
    rintro e w9 ⟨tq, lq, Q, fq, rfl, hrq, hb9, hq1, hq2⟩
    obtain ⟨rfl, rfl⟩ : Q = S ∧ fq = er := by
      by_cases h0 : P.bndE R = 0
      · rw [(hq1 h0).1, (hq1 h0).2, (HM2'.out h0).1, (HM2'.out h0).2]; exact ⟨rfl, rfl⟩
      · rw [(hq2 h0).1, (hq2 h0).2, (HM3'.out h0).1, (HM3'.out h0).2]; exact ⟨rfl, rfl⟩
    obtain ⟨ux, uy, rfl, _⟩ := hrq.tail.nil_of
    obtain ⟨mx, my, rfl, _⟩ := hrq.lv
    have hA10 : Below w9.heap.size w9 (w9.alloc (.cells #[.int .i64 Q.k, .slice ux Q.tail.length uy, .slice mx Q.lv.length my, .int .i64 Q.n, .int .i64 Q.sl] 25)) := (Below.refl _ w9).alloc (Nat.le_refl _) _
    have HXS9 := hide ((HXS8.out.below hb9).below hA10)
    have HSm := hide (sameRank_yes _ _ _ _ Q _ ((HRs8.out.below hb9 (Nat.le_refl _)).below hA10 (Nat.le_refl _)) (hrq.below hA10 (Nat.le_refl _)))
    have HB9 := hide (Below.next (Below.next HB8.out hb9) hA10)
    obtain ⟨c0, c1, c2, c3, c4⟩ := HXS9.out.cells
    have hff : (fq == fq) = true := by simp
    clear hb9 hq1 hq2 hrq hA10 HXS8 HRs8 HB8 HBn HM2' HM3'
    go_wp2_with (go_at_call 11; go_must (refine HSm.out.mono ?_); rintro e w10 ⟨rfl, hb10⟩)
    go_ret
    exact ⟨rfl, Below.next HB9.out hb10⟩

set_option maxRecDepth 100000 in
theorem lifted_RankMerges (os : Os) (started : os.Started) (H : Type) (enc : TypeId × Value → H) :
    ReturnsInHanded {} Try.checked os 4 .any (Rows.rankMergesSpec.pre6 enc Try.prog Try.f4 Rows.rankMergesRow.domain false) (Rows.rankMergesSpec.post enc Try.prog Try.f4 false true false false) := by
  refine returnsInHanded_of_change_sized (C := Try.checked) own started (by kernel_rfl) Try.func4
    (ChangeSpec.witness6 (enc := enc) (C := Try.checked) false ⟨#[], #[.agg #[.int .i64 0, .slice none 0 0, .slice none 0 0, .int .i64 0, .int .i64 0], .agg #[.int .i64 0, .slice none 0 0, .slice none 0 0, .int .i64 0, .int .i64 0]], []⟩ 8 (by kernel_rfl) (by kernel_rfl) (by kernel_rfl) (by kernel_rfl)) ?_
  intro W base args ds gs before hval0 hW hcnd hsz0  _
  have hsz : (DataW.weightsEach Try.prog (Try.f4.params.toList ++ Rows.rankMergesSpec.plain.varTypes Try.prog) (ds ++ gs)).all (· ≤ reachBytes) = true := hsz0
  have hval : ∀ (j : Nat) t v, Try.f4.params[j]? = some t → args[j]? = some v → Value.okWide Try.prog W .any base t v := hval0
  have hW' := hW
  obtain ⟨p, q, hA0, hV, rfl, hfz, hnd⟩ := hW
  have hA : DataW.TrodAll enc Try.prog W 0 (fun _ => true) true Try.f4.params.toList args.toList ds p := hA0
  rw [Try.params4] at hA hval hsz
  obtain ⟨v0, vs0, d0, ds0, p0, q0, hargs, rfl, rfl, h0, r0⟩ := trodAll_cons hA
  obtain ⟨v1, vs1, d1, ds1, p1, q1, rfl, rfl, rfl, h1, r1⟩ := trodAll_cons r0
  obtain ⟨rfl, rfl, rfl⟩ := trodAll_nil r1
  obtain rfl : args = #[v0, v1] := by cases args; simp_all
  obtain ⟨rfl, rfl⟩ := trodVars_none hV
  have k0 := h0
  have lt0 : ∀ x ∈ p0, x.block < W.heap.size := by obtain ⟨m, hm⟩ := k0; exact DataW.trod_lt m _ _ _ hm
  obtain ⟨tv0, lv0, x0, rfl, rk0, ri0⟩ := open_rank (hval 0 25 v0 rfl rfl) h0
  have k1 := h1
  have lt1 : ∀ x ∈ p1, x.block < W.heap.size := by obtain ⟨m, hm⟩ := k1; exact DataW.trod_lt m _ _ _ hm
  obtain ⟨tv1, lv1, x1, rfl, rk1, ri1⟩ := open_rank (hval 1 25 v1 rfl rfl) h1
  clear hA0 hval0
  refine (walk_RankMerges tv0 lv0 x0 tv1 lv1 x1 W rk0 ri0 rk1 ri1).mono fun e W' ⟨he, bel⟩ => ?_
  subst he
  exact ⟨_, rfl, _, _, _, [], _, [], hW', trodAll_mk1 (shut_bool Try.underlying4 _), (trodAll_cons_mk (Below.trod laidOut (by kernel_rfl) (of_decide_eq_true (by kernel_rfl)) k0 bel lt0) (trodAll_cons_mk (Below.trod laidOut (by kernel_rfl) (of_decide_eq_true (by kernel_rfl)) k1 bel lt1) trodAll_mk0)), rfl, bel.frame _, fun h => by cases h⟩

theorem proved_RankMerges : Rows.RankMergesSaid :=
  OpenClaim.holds_of_wide 4 Try.f4 rfl rfl rfl rfl rfl rfl rfl ⟨rfl, rfl, rfl, rfl, rfl⟩ rfl rfl rfl rfl rfl (by kernel_rfl) Try.func4 (by kernel_rfl)
    (of_decide_eq_true (by kernel_rfl)) (by unfold Func.isWrapper; first | (rw [if_pos (by decide +kernel)]; kernel_rfl) | (rw [if_neg (by decide +kernel)]; exact ⟨rfl, rfl⟩))
    (fun os started H enc _ => lifted_RankMerges os started H enc)
#print axioms proved_RankMerges
end Go.Proofs.Ytlndbmenaaiogaa
