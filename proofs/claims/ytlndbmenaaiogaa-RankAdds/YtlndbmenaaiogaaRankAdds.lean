/- RankAdds holds: at all K, ranks and numbers the law answers true and changes nothing that was there. -/
import Derived.Test.YtlndbmenaaiogaaRankAdds0
import Derived.Test.YtlndbmenaaiogaaRefRkF
import Derived.Test.YtlndbmenaaiogaaRankE
namespace Go.Proofs.Ytlndbmenaaiogaa
open Go.ChangeShapes Go.WideShapes Go.ChangeAt Go.RowKit
set_option linter.unusedVariables false
/-- Empty in one contract. -/
theorem Empty_any (k : Int) (w : World) : Calls Try.prog 9 #[.int .i64 k] w fun e w' => ∃ (k' : Int) (er : Int), e = .returned (.tuple #[aggR (.slice none 0 0) (.slice none 0 0) ⟨k', [], [], 0, 0⟩, .int .i64 er]) ∧ Below w.heap.size w w' ∧ (2 ≤ k ∧ k ≤ 64 → k' = k ∧ er = 0) ∧ (¬ (2 ≤ k ∧ k ≤ 64) → k' = 0 ∧ er = 1) := by
  by_cases h : 2 ≤ k ∧ k ≤ 64
  · refine (Empty_ok k w h).mono ?_
    rintro e w' ⟨rfl, hb⟩
    exact ⟨k, 0, rfl, hb, fun _ => ⟨rfl, rfl⟩, fun hn => absurd h hn⟩
  · refine (Empty_bad k w h).mono ?_
    rintro e w' ⟨rfl, hb⟩
    exact ⟨0, 1, rfl, hb, fun hn => absurd hn h, fun _ => ⟨rfl, rfl⟩⟩
/-- Add in one contract. -/
theorem Add_any (tv lv : Value) (s : P.Rk) (v : Int) (w : World) (hr : RkV w tv lv s) : Calls Try.prog 10 #[aggR tv lv s, .int .i64 v] w fun e w' => ∃ (tb lb : Value) (B : P.Rk) (er : Int), e = .returned (.tuple #[aggR tb lb B, .int .i64 er]) ∧ RkV w' tb lb B ∧ Below w.heap.size w w' ∧
    (P.Good s → P.bndE (P.adU s v) = 0 → B = P.adU s v ∧ er = 0) ∧ (P.Good s → P.bndE (P.adU s v) ≠ 0 → B = ⟨0, [], [], 0, 0⟩ ∧ er = 2) ∧ (¬ P.Good s → B = ⟨0, [], [], 0, 0⟩ ∧ er = 4) := by
  by_cases hg : P.Good s
  · refine (Add_ok tv lv s v w hr hg).mono ?_
    rintro e w' ⟨h1, h2, hb⟩
    by_cases h0 : P.bndE (P.adU s v) = 0
    · obtain ⟨tb, lb, rfl, ho⟩ := h1 h0
      exact ⟨tb, lb, _, 0, rfl, ho.read, hb, fun _ _ => ⟨rfl, rfl⟩, fun _ hn => absurd h0 hn, fun hn => absurd hg hn⟩
    · have e := h2 h0
      subst e
      exact ⟨_, _, ⟨0, [], [], 0, 0⟩, 2, rfl, RkV.zero _ _ _ _, hb, fun _ hn => absurd hn h0, fun _ _ => ⟨rfl, rfl⟩, fun hn => absurd hg hn⟩
  · refine (Add_bad tv lv s v w hr hg).mono ?_
    rintro e w' ⟨rfl, hb⟩
    exact ⟨_, _, ⟨0, [], [], 0, 0⟩, 4, rfl, RkV.zero _ _ _ _, hb, fun hn => absurd hn hg, fun hn => absurd hn hg, fun _ => ⟨rfl, rfl⟩⟩
set_option maxHeartbeats 2000000 in
set_option maxRecDepth 100000 in
theorem walk_RankAdds (k : Int) (tv lv : Value) (s : P.Rk) (v : Int) (w : World) (_ : -9223372036854775808 ≤ k) (_ : k ≤ 9223372036854775807) (hr : RkV w tv lv s) (hi : RkI s) (_ : -9223372036854775808 ≤ v) (_ : v ≤ 9223372036854775807) :
    Calls Try.prog 3 #[.int .i64 k, aggR tv lv s, .int .i64 v] w fun e w' => e = .returned (.bool true) ∧ Below w.heap.size w w' := by
  have HE := hide (fun wx => Empty_any k wx)
  have HA := hide (fun wx (hb : Below w.heap.size w wx) => Add_any tv lv s v wx (hr.below hb (Nat.le_refl _)))
  have HFt := hide (fun wx (hb : Below w.heap.size w wx) => rankFault_any tv lv s wx (hr.below hb (Nat.le_refl _)))
  have HCk := hide (fun wx (hb : Below w.heap.size w wx) => check_any tv lv s wx (hr.below hb (Nat.le_refl _)))
  have HRk := hide (fun wx (hb : Below w.heap.size w wx) (hg : P.Good s) => rankedRef_any wx tv lv s v wx (Below.refl _ _) (hr.below hb (Nat.le_refl _)).rd hg.1 (P.ad_bounds hg v).1 (P.ad_bounds hg v).2 (by have := hg.2.1; omega))
  obtain ⟨at', ct, rfl, _, _⟩ := hr.tail.nil_of
  obtain ⟨al, cl, rfl, _⟩ := hr.lv
  have HB := hide ((Below.refl _ w).alloc (Nat.le_refl _) (.cells #[.int .i64 s.k, .slice at' s.tail.length ct, .slice al s.lv.length cl, .int .i64 s.n, .int .i64 s.sl] 25))
  have HX := hide (BoxR.new w (.slice at' s.tail.length ct) (.slice al s.lv.length cl) s)
  clear hr hi
  go_enter Try.func3, Try.ntmps3
  go_upto_region 2 with (go_at_call 9; go_must (refine (HE.out _).mono ?_); rintro e w1 ⟨k', er, rfl, hb1, hE1, hE2⟩)
  have HB1 := hide (Below.next HB.out hb1)
  have hA1 : Below w1.heap.size w1 (w1.alloc (.cells #[.int .i64 k', .slice none 0 0, .slice none 0 0, .int .i64 0, .int .i64 0] 25)) := (Below.refl _ w1).alloc (Nat.le_refl _) _
  have XS1 := (HX.out.below hb1).below hA1
  have XA1 : BoxR (w1.alloc (.cells #[.int .i64 k', .slice none 0 0, .slice none 0 0, .int .i64 0, .int .i64 0] 25)) w1.heap.size (.slice none 0 0) (.slice none 0 0) ⟨k', [], [], 0, 0⟩ := BoxR.new w1 _ _ ⟨k', [], [], 0, 0⟩
  have HB2 := hide (Below.next HB1.out hA1)
  have HE1 := hide hE1
  have HE2 := hide hE2
  obtain ⟨b0, b1, b2, b3, b4⟩ := XS1.cells
  have HXS1 := hide XS1
  have HXA1 := hide XA1
  clear hb1 hA1 XS1 XA1 hE1 hE2 HX HB HB1 HE
  generalize w1.heap.size = ga at *
  generalize (w1.alloc (.cells #[.int .i64 k', .slice none 0 0, .slice none 0 0, .int .i64 0, .int .i64 0] 25)) = W1 at *
  go_upto_region 3 with (go_at_call 10; go_must (refine (HA.out _ HB2.out).mono ?_); rintro e w3 ⟨tb, lb, B, f, rfl, hrb, hb3, hA1, hA2, hA3⟩; obtain ⟨tx, ty, htb, _⟩ := hrb.tail.nil_of; obtain ⟨lx, ly, hlb, _⟩ := hrb.lv; subst htb hlb)
  have hA4 : Below w3.heap.size w3 (w3.alloc (.cells #[.int .i64 B.k, .slice tx B.tail.length ty, .slice lx B.lv.length ly, .int .i64 B.n, .int .i64 B.sl] 25)) := (Below.refl _ w3).alloc (Nat.le_refl _) _
  have HXS := hide ((HXS1.out.below hb3).below hA4)
  have HXA := hide ((HXA1.out.below hb3).below hA4)
  have HXB := hide (BoxR.new w3 (.slice tx B.tail.length ty) (.slice lx B.lv.length ly) B)
  have HRb := hide (hrb.below hA4 (Nat.le_refl _))
  have HB4 := hide (Below.next (Below.next HB2.out hb3) hA4)
  have HA1 := hide hA1
  have HA2 := hide hA2
  have HA3 := hide hA3
  clear b0 b1 b2 b3 b4 hb3 hA4 hrb hA1 hA2 hA3 HXS1 HXA1 HB2 HA
  generalize w3.heap.size = gb at *
  generalize (w3.alloc (.cells #[.int .i64 B.k, .slice tx B.tail.length ty, .slice lx B.lv.length ly, .int .i64 B.n, .int .i64 B.sl] 25)) = W at *
  go_cut [30] from 25 to 30 (fun c wc => c = .bool (decide (k < 2 ∨ 64 < k)) ∧ W = wc)
  case first =>
    by_cases h1 : k < 2
    · have hd : decide (k < 2 ∨ 64 < k) = true := by simp; omega
      have HD := hide hd
      clear hd
      go_wp2
      go_meet
      exact ⟨by rw [HD.out], rfl⟩
    · have hd1 : decide (k < 2) = false := by simpa using h1
      by_cases h2 : 64 < k
      · have hd : decide (k < 2 ∨ 64 < k) = true := by simp; omega
        have HD := hide hd
        clear hd h1
        go_wp2
        go_meet
        exact ⟨by rw [HD.out], rfl⟩
      · have hd2 : decide (64 < k) = false := by simpa using h2
        have hd : decide (k < 2 ∨ 64 < k) = false := by simp; omega
        have HD := hide hd
        clear hd h1 h2
        go_wp2
        go_meet
        exact ⟨by rw [HD.out], rfl⟩
  case rest =>
    obtain ⟨rfl, rfl⟩ := hcut
    go_upto_if 30 with fail
    go_cut [] from 25 to 47 (fun wc => Below W.heap.size W wc)
    case first =>
      obtain ⟨a0, a1, a2, a3, a4⟩ := HXA.out.cells
      have HSm := hide (sameRank_yes _ _ _ _ _ W (RkV.zero W k' 0 0) (RkV.zero W k' 0 0))
      by_cases h : 2 ≤ k ∧ k ≤ 64
      · obtain ⟨rfl, rfl⟩ := HE1.out h
        have hd : decide (k' < 2 ∨ 64 < k') = false := by simp; omega
        clear h
        rw [hd]
        go_wp2_with (go_at_call 11; go_must (refine HSm.out.mono ?_); rintro e w5 ⟨rfl, hb5⟩)
        go_meet
        exact hb5
      · obtain ⟨rfl, rfl⟩ := HE2.out h
        have hd : decide (k < 2 ∨ 64 < k) = true := by simp; omega
        clear h
        rw [hd]
        go_wp2_with (go_at_call 11; go_must (refine HSm.out.mono ?_); rintro e w5 ⟨rfl, hb5⟩)
        go_meet
        exact hb5
    case rest =>
      have HXS5 := hide (HXS.out.below hcut)
      have HXB5 := hide (HXB.out.below hcut)
      have HRb5 := hide (HRb.out.below hcut (Nat.le_refl _))
      have HB5 := hide (Below.next HB4.out hcut)
      obtain ⟨b0, b1, b2, b3, b4⟩ := HXS5.out.cells
      clear hcut HXS HXA HXB HRb HB4 HE1 HE2
      by_cases hg : P.Good s
      · rw [P.chkR_ok hg] at HFt HCk
        have HG := hide hg
        have HA1' := hide (HA1.out hg)
        have HA2' := hide (HA2.out hg)
        clear hg HA1 HA2 HA3
        go_wp2_with fail
        refine (HFt.out _ HB5.out).mono ?_
        rintro e w6 ⟨rfl, hb6⟩
        have HXS6 := hide (HXS5.out.below hb6)
        have HXB6 := hide (HXB5.out.below hb6)
        have HRb6 := hide (HRb5.out.below hb6 (Nat.le_refl _))
        have HB6 := hide (Below.next HB5.out hb6)
        clear b0 b1 b2 b3 b4 HXS5 HXB5 HRb5 HB5 hb6 HFt
        obtain ⟨b0, b1, b2, b3, b4⟩ := HXS6.out.cells
        go_wp2_with fail
        refine (HCk.out _ HB6.out).mono ?_
        rintro e w7 ⟨rfl, hb7⟩
        have HXS7 := hide (HXS6.out.below hb7)
        have HXB7 := hide (HXB6.out.below hb7)
        have HRb7 := hide (HRb6.out.below hb7 (Nat.le_refl _))
        have HB7 := hide (Below.next HB6.out hb7)
        clear b0 b1 b2 b3 b4 HXS6 HXB6 HRb6 HB6 hb7 HCk
        obtain ⟨b0, b1, b2, b3, b4⟩ := HXS7.out.cells
        go_wp2_with fail
        refine (HRk.out _ HB7.out HG.out).mono ?_
        rintro e w8 ⟨t8, l8, rfl, hrd8, hb8⟩
        have hrk8 := hrd8.read hb8
        have HXB8 := hide (HXB7.out.below hb8)
        have HRb8 := hide (HRb7.out.below hb8 (Nat.le_refl _))
        have HB8 := hide (Below.next HB7.out hb8)
        have HBn := hide (rankBounds_any t8 l8 _ w8 hrk8)
        clear b0 b1 b2 b3 b4 HXS7 HXB7 HRb7 HB7 hb8 hrd8 hrk8 HRk
        generalize P.adU s v = R at *
        go_wp2_with fail
        refine HBn.out.mono ?_
        rintro e w9 ⟨tq, lq, Q, fq, rfl, hrq, hb9, hq1, hq2⟩
        obtain ⟨rfl, rfl⟩ : Q = B ∧ fq = f := by
          by_cases h0 : P.bndE R = 0
          · rw [(hq1 h0).1, (hq1 h0).2, (HA1'.out h0).1, (HA1'.out h0).2]; exact ⟨rfl, rfl⟩
          · rw [(hq2 h0).1, (hq2 h0).2, (HA2'.out h0).1, (HA2'.out h0).2]; exact ⟨rfl, rfl⟩
        obtain ⟨ux, uy, rfl, _⟩ := hrq.tail.nil_of
        obtain ⟨mx, my, rfl, _⟩ := hrq.lv
        have hA10 : Below w9.heap.size w9 (w9.alloc (.cells #[.int .i64 Q.k, .slice ux Q.tail.length uy, .slice mx Q.lv.length my, .int .i64 Q.n, .int .i64 Q.sl] 25)) := (Below.refl _ w9).alloc (Nat.le_refl _) _
        have HXB9 := hide ((HXB8.out.below hb9).below hA10)
        have HXQ := hide (BoxR.new w9 (.slice ux Q.tail.length uy) (.slice mx Q.lv.length my) Q)
        have HSm := hide (sameRank_yes _ _ _ _ Q _ ((HRb8.out.below hb9 (Nat.le_refl _)).below hA10 (Nat.le_refl _)) (hrq.below hA10 (Nat.le_refl _)))
        have HB9 := hide (Below.next (Below.next HB8.out hb9) hA10)
        obtain ⟨c0, c1, c2, c3, c4⟩ := HXB9.out.cells
        have hff : (fq == fq) = true := by simp
        clear hb9 hq1 hq2 hrq hA10 HXB8 HRb8 HB8 HBn HA1' HA2'
        go_wp2_with (go_at_call 11; go_must (refine HSm.out.mono ?_); rintro e w10 ⟨rfl, hb10⟩)
        go_ret
        exact ⟨rfl, Below.next HB9.out hb10⟩
      · rw [P.chkR_not hg] at HFt HCk
        obtain ⟨rfl, rfl⟩ := HA3.out hg
        clear hg HA1 HA2 HA3 HRk
        go_wp2_with fail
        refine (HFt.out _ HB5.out).mono ?_
        rintro e w6 ⟨rfl, hb6⟩
        have HXS6 := hide (HXS5.out.below hb6)
        have HXB6 := hide (HXB5.out.below hb6)
        have HRb6 := hide (HRb5.out.below hb6 (Nat.le_refl _))
        have HB6 := hide (Below.next HB5.out hb6)
        clear b0 b1 b2 b3 b4 HXS5 HXB5 HRb5 HB5 hb6 HFt
        obtain ⟨b0, b1, b2, b3, b4⟩ := HXS6.out.cells
        go_wp2_with fail
        refine (HCk.out _ HB6.out).mono ?_
        rintro e w7 ⟨rfl, hb7⟩
        have HXB7 := hide (HXB6.out.below hb7)
        have HRb7 := hide (HRb6.out.below hb7 (Nat.le_refl _))
        have HB7 := hide (Below.next HB6.out hb7)
        have HSm := hide (sameRank_yes _ _ _ _ _ _ HRb7.out (RkV.zero w7 0 0 0))
        clear b0 b1 b2 b3 b4 HXS6 HXB6 HRb6 HB6 hb7 HCk
        obtain ⟨c0, c1, c2, c3, c4⟩ := HXB7.out.cells
        go_wp2_with (go_at_call 11; go_must (refine HSm.out.mono ?_); rintro e w10 ⟨rfl, hb10⟩)
        go_ret
        exact ⟨rfl, Below.next HB7.out hb10⟩

set_option maxRecDepth 100000 in
theorem lifted_RankAdds (os : Os) (started : os.Started) (H : Type) (enc : TypeId × Value → H) :
    ReturnsInHanded {} Try.checked os 3 .any (Rows.rankAddsSpec.pre6 enc Try.prog Try.f3 Rows.rankAddsRow.domain false) (Rows.rankAddsSpec.post enc Try.prog Try.f3 false true false false) := by
  refine returnsInHanded_of_change_sized (C := Try.checked) own started (by kernel_rfl) Try.func3
    (ChangeSpec.witness6 (enc := enc) (C := Try.checked) false ⟨#[], #[.int .i64 0, .agg #[.int .i64 0, .slice none 0 0, .slice none 0 0, .int .i64 0, .int .i64 0], .int .i64 0], []⟩ 8 (by kernel_rfl) (by kernel_rfl) (by kernel_rfl) (by kernel_rfl)) ?_
  intro W base args ds gs before hval0 hW hcnd hsz0  _
  have hsz : (DataW.weightsEach Try.prog (Try.f3.params.toList ++ Rows.rankAddsSpec.plain.varTypes Try.prog) (ds ++ gs)).all (· ≤ reachBytes) = true := hsz0
  have hval : ∀ (j : Nat) t v, Try.f3.params[j]? = some t → args[j]? = some v → Value.okWide Try.prog W .any base t v := hval0
  have hW' := hW
  obtain ⟨p, q, hA0, hV, rfl, hfz, hnd⟩ := hW
  have hA : DataW.TrodAll enc Try.prog W 0 (fun _ => true) true Try.f3.params.toList args.toList ds p := hA0
  rw [Try.params3] at hA hval hsz
  obtain ⟨v0, vs0, d0, ds0, p0, q0, hargs, rfl, rfl, h0, r0⟩ := trodAll_cons hA
  obtain ⟨v1, vs1, d1, ds1, p1, q1, rfl, rfl, rfl, h1, r1⟩ := trodAll_cons r0
  obtain ⟨v2, vs2, d2, ds2, p2, q2, rfl, rfl, rfl, h2, r2⟩ := trodAll_cons r1
  obtain ⟨rfl, rfl, rfl⟩ := trodAll_nil r2
  obtain rfl : args = #[v0, v1, v2] := by cases args; simp_all
  obtain ⟨rfl, rfl⟩ := trodVars_none hV
  have k0 := h0
  have lt0 : ∀ x ∈ p0, x.block < W.heap.size := by obtain ⟨m, hm⟩ := k0; exact DataW.trod_lt m _ _ _ hm
  obtain ⟨a0, rfl, rfl, rfl, w0⟩ := open_int Try.underlying3 (hval 0 3 v0 rfl rfl) h0
  have b0 := bounds_i64 w0
  have k1 := h1
  have lt1 : ∀ x ∈ p1, x.block < W.heap.size := by obtain ⟨m, hm⟩ := k1; exact DataW.trod_lt m _ _ _ hm
  obtain ⟨tv1, lv1, x1, rfl, rk1, ri1⟩ := open_rank (hval 1 25 v1 rfl rfl) h1
  have k2 := h2
  have lt2 : ∀ x ∈ p2, x.block < W.heap.size := by obtain ⟨m, hm⟩ := k2; exact DataW.trod_lt m _ _ _ hm
  obtain ⟨a2, rfl, rfl, rfl, w2⟩ := open_int Try.underlying2 (hval 2 2 v2 rfl rfl) h2
  have b2 := bounds_i64 w2
  clear hA0 hval0
  refine (walk_RankAdds a0 tv1 lv1 x1 a2 W b0.1 b0.2 rk1 ri1 b2.1 b2.2).mono fun e W' ⟨he, bel⟩ => ?_
  subst he
  exact ⟨_, rfl, _, _, _, [], _, [], hW', trodAll_mk1 (shut_bool Try.underlying4 _), (trodAll_cons_mk (Below.trod laidOut (by kernel_rfl) (of_decide_eq_true (by kernel_rfl)) k0 bel lt0) (trodAll_cons_mk (Below.trod laidOut (by kernel_rfl) (of_decide_eq_true (by kernel_rfl)) k1 bel lt1) (trodAll_cons_mk (Below.trod laidOut (by kernel_rfl) (of_decide_eq_true (by kernel_rfl)) k2 bel lt2) trodAll_mk0))), rfl, bel.frame _, fun h => by cases h⟩

theorem proved_RankAdds : Rows.RankAddsSaid :=
  OpenClaim.holds_of_wide 3 Try.f3 rfl rfl rfl rfl rfl rfl rfl ⟨rfl, rfl, rfl, rfl, rfl⟩ rfl rfl rfl rfl rfl (by kernel_rfl) Try.func3 (by kernel_rfl)
    (of_decide_eq_true (by kernel_rfl)) (by unfold Func.isWrapper; first | (rw [if_pos (by decide +kernel)]; kernel_rfl) | (rw [if_neg (by decide +kernel)]; exact ⟨rfl, rfl⟩))
    (fun os started H enc _ => lifted_RankAdds os started H enc)
#print axioms proved_RankAdds
end Go.Proofs.Ytlndbmenaaiogaa
