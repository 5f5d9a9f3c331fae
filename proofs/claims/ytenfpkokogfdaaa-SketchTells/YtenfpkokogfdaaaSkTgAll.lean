/- Several texts in one. -/
import Derived.Test.YtenfpkokogfdaaaSkTuAll
import Derived.Deep.RegionHeld3
/- SketchTells where the sketch may stand. -/
namespace Go.Proofs.Ytenfpkokogfdaaa
open Go.RowKit
set_option linter.unusedVariables false
set_option maxRecDepth 100000 in
set_option maxHeartbeats 8000000 in
theorem tells_good (d x : Int) (cv : Value) (S : P.Sk) (q : ByteArray) (n : Int) (w : World) (hr : RowK .i64 w cv S.c) (hg : P.SkGood S) (hq : q.size ≤ 140737488351232) (hm0 : -9223372036854775808 ≤ n) (hm1 : n ≤ 9223372036854775807) :
    Calls Try.prog 3 #[.int .i64 d, .int .i64 x, aggK cv S, .string q, .int .i64 n] w fun e w' => e = .returned (.bool true) ∧ Below w.heap.size w w' := by
  have HE := hide (fun wx => Empty_any d x wx)
  have HA := hide (fun wx (hb : Below w.heap.size w wx) => Add_good cv S q n wx (hr.below hb (Nat.le_refl _)) hg hm0 hm1 (by omega))
  have HCt := hide (fun wx (hb : Below w.heap.size w wx) => Count_ok cv S q wx (hr.below hb (Nat.le_refl _)) hg (by omega))
  have HFt : Hid (∀ wx, Below w.heap.size w wx → Calls Try.prog 13 #[.agg #[.int .i64 S.d, .int .i64 S.w, cv, .int .i64 S.n]] wx fun e w' => e = .returned (.int .i64 0) ∧ Below wx.heap.size wx w') := fun wx h => by
    have := Fault_any cv S.raw wx (hr.below h (Nat.le_refl _))
    rw [P.chk_raw hg] at this; exact this
  have HCk : Hid (∀ wx, Below w.heap.size w wx → Calls Try.prog 14 #[.agg #[.int .i64 S.d, .int .i64 S.w, cv, .int .i64 S.n]] wx fun e w' => e = .returned (.int .i64 0) ∧ Below wx.heap.size wx w') := fun wx h => by
    have := Check_any cv S.raw wx (hr.below h (Nat.le_refl _)) hg.rwI
    rw [P.chk_raw hg] at this; exact this
  have HCl := hide (fun wx (hb : Below w.heap.size w wx) => cloneI_any cv S.c wx (hr.below hb (Nat.le_refl _)) (by rw [hg.len]; have : S.d * S.w ≤ 1600 := Nat.mul_le_mul hg.d8 hg.w200; omega))
  have HCe := hide (fun (k : Nat) wx (hk : k ≤ 8) => CellOf_any cv S.d S.w S.n k q wx hk hg.w1 hg.w200 (by omega))
  have hpos : 0 < S.c.length := by rw [hg.len]; exact Nat.mul_pos hg.d1 hg.w1
  have hlen : S.c.length ≤ 1600 := by rw [hg.len]; exact Nat.mul_le_mul hg.d8 hg.w200
  have hd8 := hg.d8
  have hw1 := hg.w1
  have HLt := hide (fun k (h : k < S.d) => P.place_lt hg q h)
  have HCb := hide (fun k (h : k < S.d) => P.cell_le hg h (P.hc_lt (w := S.w) (by omega) k q))
  have HKAt := hide (fun k (h : k < S.d) => P.addK_at (fun i => P.hc S.w i q) S.w S.c n k (by omega) (P.hc_lt (w := S.w) (by omega) k q) (P.place_lt hg q h))
  have HKSu := hide (fun k (h : k < S.d) => P.addK_succ (fun i => P.hc S.w i q) S.w S.c n k (by omega) (P.hc_lt (w := S.w) (by omega) k q) (P.place_lt hg q h))
  have HKZ := hide (P.addK_zero (fun i => P.hc S.w i q) S.w S.c n)
  have HKAll : Hid (P.addK (fun i => P.hc S.w i q) S.w S.c n S.d = (P.adS S q n).c) := P.addK_all hg.len (by omega)
  have HKl := hide (P.addK_len (fun i => P.hc S.w i q) S.w S.c n)
  have hn0 := hg.n0
  have hn1 := hg.n1
  have HB := hide ((Below.refl w.heap.size w).alloc (Nat.le_refl _) (.cells #[.int .i64 S.d, .int .i64 S.w, cv, .int .i64 S.n] 24))
  have HX := hide (BoxK.new w cv S)
  obtain ⟨xs, ys, rfl, ⟨hsc1, hsc2, _⟩, hscase⟩ := hr
  rcases hscase with h | ⟨sb, so, rfl, hsbs, hscell⟩
  · rw [h] at hpos; simp at hpos
  unfold maxLen at hsc2
  have HSc := hide hscell
  clear hg hscell
  go_enter Try.func3, Try.ntmps3
  go_upto_region 1 with fail
  simp only [cellsK] at HB HX
  generalize w.alloc (.cells #[.int .i64 S.d, .int .i64 S.w, .slice (some ⟨sb, so, none⟩) S.c.length ys, .int .i64 S.n] 24) = W0 at *
  go_upto_region 2 with (go_at_call 9; go_must (refine (HE.out _).mono ?_); rintro e w1 ⟨va, A, er, rfl, hra, hb1, hE1, hE2⟩; obtain ⟨xa, ya, hva⟩ := hra.shp; subst hva)
  have hA1 : Below w1.heap.size w1 (w1.alloc (.cells #[.int .i64 A.d, .int .i64 A.w, .slice xa A.c.length ya, .int .i64 A.n] 24)) := (Below.refl _ w1).alloc (Nat.le_refl _) _
  have HXS1 := hide ((HX.out.below hb1).below hA1)
  have HXA1 : Hid (BoxK (w1.alloc (.cells #[.int .i64 A.d, .int .i64 A.w, .slice xa A.c.length ya, .int .i64 A.n] 24)) w1.heap.size (.slice xa A.c.length ya) A) := BoxK.new w1 _ A
  have HRA1 := hide (hra.below hA1 (Nat.le_refl _))
  have HB2 := hide (Below.next (Below.next HB.out hb1) hA1)
  have HE1 := hide hE1
  have HE2 := hide hE2
  obtain ⟨b0, b1, b2, b3⟩ := HXS1.out.cells
  clear hb1 hA1 hra hE1 hE2 HX HB HE
  generalize w1.heap.size = ga at *
  generalize (w1.alloc (.cells #[.int .i64 A.d, .int .i64 A.w, .slice xa A.c.length ya, .int .i64 A.n] 24)) = W1 at *
  have HA1 := hide (HA.out W1 HB2.out)
  clear HA
  generalize hae : P.adE S n = f at *
  have HF := hide hae
  clear hae
  go_upto_region 3 with (go_at_call 10; go_must (refine HA1.out.mono ?_); rintro e w3 ⟨vb, B, rfl, hrb, hb3, hAd1, hAd2⟩; obtain ⟨xb, yb, hvb⟩ := hrb.shp; subst hvb)
  have hA4 : Below w3.heap.size w3 (w3.alloc (.cells #[.int .i64 B.d, .int .i64 B.w, .slice xb B.c.length yb, .int .i64 B.n] 24)) := (Below.refl _ w3).alloc (Nat.le_refl _) _
  have HXS2 := hide ((HXS1.out.below hb3).below hA4)
  have HXA2 := hide ((HXA1.out.below hb3).below hA4)
  have HRA2 := hide ((HRA1.out.below hb3 (Nat.le_refl _)).below hA4 (Nat.le_refl _))
  have HXB2 : Hid (BoxK (w3.alloc (.cells #[.int .i64 B.d, .int .i64 B.w, .slice xb B.c.length yb, .int .i64 B.n] 24)) w3.heap.size (.slice xb B.c.length yb) B) := BoxK.new w3 _ B
  have HRB2 := hide (hrb.below hA4 (Nat.le_refl _))
  have HB4 := hide (Below.next (Below.next HB2.out hb3) hA4)
  have HAd1 := hide hAd1
  have HAd2 := hide hAd2
  clear b0 b1 b2 b3 hb3 hA4 hrb hAd1 hAd2 HXS1 HXA1 HRA1 HB2 HA1
  generalize w3.heap.size = gb at *
  generalize (w3.alloc (.cells #[.int .i64 B.d, .int .i64 B.w, .slice xb B.c.length yb, .int .i64 B.n] 24)) = W2 at *
  obtain ⟨b0, b1, b2, b3⟩ := HXS2.out.cells
  go_upto_region 4 with (go_at_call 11; go_must (refine (HCt.out _ HB4.out).mono ?_); rintro e w4 ⟨rfl, hb4⟩)
  have HXS := hide (HXS2.out.below hb4)
  have HXA := hide (HXA2.out.below hb4)
  have HRA := hide (HRA2.out.below hb4 (Nat.le_refl _))
  have HXB := hide (HXB2.out.below hb4)
  have HRB := hide (HRB2.out.below hb4 (Nat.le_refl _))
  have HB5 := hide (Below.next HB4.out hb4)
  clear b0 b1 b2 b3 HXS2 HXA2 HRA2 HXB2 HRB2 HB4 hb4 HCt
  go_cut [55] from 42 to 55 (fun c wc => c = .bool (P.odB d x) ∧ w4 = wc)
  case first =>
    by_cases h1 : d < 1
    · have d1 : decide (d < 1) = true := by simpa using h1
      have HD : Hid (P.odB d x = true) := by show _ = _; unfold P.odB P.arB; simp; omega
      clear h1
      go_wp2
      go_meet
      exact ⟨by rw [HD.out], rfl⟩
    · have d1 : decide (d < 1) = false := by simpa using h1
      by_cases h2 : 8 < d
      · have d2 : decide (8 < d) = true := by simpa using h2
        have HD : Hid (P.odB d x = true) := by show _ = _; unfold P.odB P.arB; simp; omega
        clear h1 h2
        go_wp2
        go_meet
        exact ⟨by rw [HD.out], rfl⟩
      · have d2 : decide (8 < d) = false := by simpa using h2
        by_cases h3 : x < 1
        · have d3 : decide (x < 1) = true := by simpa using h3
          have HD : Hid (P.odB d x = true) := by show _ = _; unfold P.odB P.arB; simp; omega
          clear h1 h2 h3
          go_wp2
          go_meet
          exact ⟨by rw [HD.out], rfl⟩
        · have d3 : decide (x < 1) = false := by simpa using h3
          by_cases h4 : 200 < x
          · have d4 : decide (200 < x) = true := by simpa using h4
            have HD : Hid (P.odB d x = true) := by show _ = _; unfold P.odB P.arB; simp; omega
            clear h1 h2 h3 h4
            go_wp2
            go_meet
            exact ⟨by rw [HD.out], rfl⟩
          · have d4 : decide (200 < x) = false := by simpa using h4
            have HD : Hid (P.odB d x = false) := by show _ = _; unfold P.odB P.arB; simp; omega
            clear h1 h2 h3 h4
            go_wp2
            go_meet
            exact ⟨by rw [HD.out], rfl⟩
  case rest =>
    obtain ⟨rfl, rfl⟩ := hcut
    go_upto_if 55 with fail
    go_cut [] from 42 to 77 (fun wc => Below w4.heap.size w4 wc)
    case first =>
      obtain ⟨a0, a1, a2, a3⟩ := HXA.out.cells
      cases harB : P.arB d x with
      | false =>
        obtain ⟨hva, rfl, rfl⟩ := HE2.out harB
        have hod : P.odB d x = true := by unfold P.odB; rw [harB]; rfl
        rw [hod]
        have HSm := hide (SameZero w4)
        rw [hva] at a2
        simp [z0] at a0 a1 a2 a3
        clear hod harB hva
        go_wp2_with (go_at_call 12; go_must (refine HSm.out.mono ?_); rintro e w5 ⟨rfl, hb5⟩)
        go_meet
        exact hb5
      | true =>
        have hod : P.odB d x = false := by unfold P.odB; rw [harB]; rfl
        rw [hod]
        have h2 := harB
        unfold P.arB at h2
        simp at h2
        obtain ⟨D, rfl⟩ : ∃ D : Nat, d = D := ⟨d.toNat, by omega⟩
        obtain ⟨X, rfl⟩ : ∃ X : Nat, x = X := ⟨x.toNat, by omega⟩
        obtain ⟨rfl, rfl⟩ := HE1.out D X rfl rfl harB
        have hdx : D * X ≤ 1600 := Nat.mul_le_mul (show D ≤ 8 by omega) (show X ≤ 200 by omega)
        have e1 : IntKind.i64.wrap ((D : Int) * (X : Int)) = ((D * X : Nat) : Int) := by
          rw [← Int.natCast_mul, IntKind.wrap_i64]
          generalize D * X = z at hdx
          omega
        have hlz : (P.skEmp D X).c.length = D * X := by simp [P.skEmp]
        have hmk := run_make_row' (P := Try.prog) 22 2 (.int .i64 0) 8 Try.underlying22 Try.info2 rfl .i64 .i64 (D * X) (by omega) (by omega) w4.drew
        have hbm : Below w4.heap.size w4 (w4.alloc (.cells (madeCells #[.int .i64 0] (D * X)) 2)).drew := below_dr ((Below.refl _ w4).alloc (Nat.le_refl _) _)
        have hmo : OwnI (w4.alloc (.cells (madeCells #[.int .i64 0] (D * X)) 2)).drew w4.heap.size (.slice (some ⟨w4.heap.size, 0, none⟩) (D * X) (D * X)) (List.replicate (D * X) 0) := made_own w4.drew w4.heap.size (D * X) (Nat.le_refl _) hdx
        have hS := SameSketch_yes (.slice xa (P.skEmp D X).c.length ya) (.slice (some ⟨w4.heap.size, 0, none⟩) (D * X) (D * X)) (P.skEmp D X) _ (HRA.out.below hbm (Nat.le_refl _)) (OwnK.row hmo)
        rw [hlz] at hS a2
        have HS := hide hS
        have HBm := hide hbm
        have a0' : w4.cell? ⟨ga, 0, none⟩ = some (.int .i64 D) := a0
        have a1' : w4.cell? ⟨ga, 1, none⟩ = some (.int .i64 X) := a1
        have a3' : w4.cell? ⟨ga, 3, none⟩ = some (.int .i64 0) := a3
        have p0 : w4.drew.cell? ⟨ga, 0, none⟩ = some (.int .i64 D) := a0'
        have p1 : w4.drew.cell? ⟨ga, 1, none⟩ = some (.int .i64 X) := a1'
        have p2 : w4.drew.cell? ⟨ga, 2, none⟩ = some (.slice xa (D * X) ya) := a2
        have p3 : w4.drew.cell? ⟨ga, 3, none⟩ = some (.int .i64 0) := a3'
        have k0 : (w4.alloc (.cells (madeCells #[.int .i64 0] (D * X)) 2)).drew.cell? ⟨ga, 0, none⟩ = some (.int .i64 D) := keep_alloc a0' _
        have k1 : (w4.alloc (.cells (madeCells #[.int .i64 0] (D * X)) 2)).drew.cell? ⟨ga, 1, none⟩ = some (.int .i64 X) := keep_alloc a1' _
        have k2 : (w4.alloc (.cells (madeCells #[.int .i64 0] (D * X)) 2)).drew.cell? ⟨ga, 2, none⟩ = some (.slice xa (D * X) ya) := keep_alloc a2 _
        have k3 : (w4.alloc (.cells (madeCells #[.int .i64 0] (D * X)) 2)).drew.cell? ⟨ga, 3, none⟩ = some (.int .i64 0) := keep_alloc a3' _
        clear a0 a1 a2 a3 a0' a1' a3' hS hbm hmo hlz h2 hod harB HE1 HE2 HRA
        generalize D * X = z at *
        go_upto_region 7 with fail
        go_region_held3 (fun wx => wx.cell? ⟨ga, 0, none⟩ = some (.int .i64 D) ∧ wx.cell? ⟨ga, 1, none⟩ = some (.int .i64 X) ∧ wx.cell? ⟨ga, 2, none⟩ = some (.slice xa z ya) ∧ wx.cell? ⟨ga, 3, none⟩ = some (.int .i64 0)) (refine ⟨?_, ?_, ?_, ?_⟩ <;> with_reducible assumption) (first
          | (go_at_call 12; refine HS.out.mono ?_; rintro e w5 ⟨rfl, hb5⟩; have HB5x := hide (Below.next HBm.out hb5); have m0 := keep_cell k0 hb5; have m1 := keep_cell k1 hb5; have m2 := keep_cell k2 hb5; have m3 := keep_cell k3 hb5; clear hb5))
        all_goals
          go_wp2
          go_meet
          exact HB5x.out
    case rest =>
      have HXS5 := hide (HXS.out.below hcut)
      have HXB5 := hide (HXB.out.below hcut)
      have HRB5 := hide (HRB.out.below hcut (Nat.le_refl _))
      have HB6 := hide (Below.next HB5.out hcut)
      obtain ⟨b0, b1, b2, b3⟩ := HXS5.out.cells
      clear hcut HXS HXA HXB HRB HB5 HE1 HE2 HRA
      go_wp2_with fail
      refine (HFt.out _ HB6.out).mono ?_
      rintro e w6 ⟨rfl, hb6⟩
      have HXS6 := hide (HXS5.out.below hb6)
      have HXB6 := hide (HXB5.out.below hb6)
      have HRB6 := hide (HRB5.out.below hb6 (Nat.le_refl _))
      have HB7 := hide (Below.next HB6.out hb6)
      clear b0 b1 b2 b3 HXS5 HXB5 HRB5 HB6 hb6 HFt
      obtain ⟨b0, b1, b2, b3⟩ := HXS6.out.cells
      go_wp2_with fail
      refine (HCk.out _ HB7.out).mono ?_
      rintro e w7 ⟨rfl, hb7⟩
      have HXS7 := hide (HXS6.out.below hb7)
      have HXB7 := hide (HXB6.out.below hb7)
      have HRB7 := hide (HRB6.out.below hb7 (Nat.le_refl _))
      have HB8 := hide (Below.next HB7.out hb7)
      clear b0 b1 b2 b3 HXS6 HXB6 HRB6 HB7 hb7 HCk
      obtain ⟨b0, b1, b2, b3⟩ := HXS7.out.cells
      have hsz7 : w.heap.size < w7.heap.size := HXS7.out.lt
      have hgb7 : gb < w7.heap.size := HXB7.out.lt
      go_upto_region 14 with fail
      go_cut [18] from 103 to 112 (fun p wx => ∃ g v', p = .pointer (some ⟨g, 0, none⟩) ∧ BoxK wx g v' S ∧ w7.heap.size ≤ g ∧ OwnI wx w7.heap.size v' S.c ∧ Below w7.heap.size w7 wx)
      case first =>
        have d0 : w7.drew.cell? ⟨w.heap.size, 0, none⟩ = some (.int .i64 S.d) := b0
        have d1 : w7.drew.cell? ⟨w.heap.size, 1, none⟩ = some (.int .i64 S.w) := b1
        have d2 : w7.drew.cell? ⟨w.heap.size, 2, none⟩ = some (.slice (some ⟨sb, so, none⟩) S.c.length ys) := b2
        have d3 : w7.drew.cell? ⟨w.heap.size, 3, none⟩ = some (.int .i64 S.n) := b3
        have e0 : (w7.alloc (.cells #[.int .i64 0, .int .i64 0, .slice none 0 0, .int .i64 0] 24)).drew.cell? ⟨w.heap.size, 0, none⟩ = some (.int .i64 S.d) := keep_alloc b0 _
        have e1 : (w7.alloc (.cells #[.int .i64 0, .int .i64 0, .slice none 0 0, .int .i64 0] 24)).drew.cell? ⟨w.heap.size, 1, none⟩ = some (.int .i64 S.w) := keep_alloc b1 _
        have e2 : (w7.alloc (.cells #[.int .i64 0, .int .i64 0, .slice none 0 0, .int .i64 0] 24)).drew.cell? ⟨w.heap.size, 2, none⟩ = some (.slice (some ⟨sb, so, none⟩) S.c.length ys) := keep_alloc b2 _
        have e3 : (w7.alloc (.cells #[.int .i64 0, .int .i64 0, .slice none 0 0, .int .i64 0] 24)).drew.cell? ⟨w.heap.size, 3, none⟩ = some (.int .i64 S.n) := keep_alloc b3 _
        have HBd : Hid (Below w.heap.size w w7.drew) := below_dr HB8.out
        have HBa : Hid (Below w.heap.size w (w7.alloc (.cells #[.int .i64 0, .int .i64 0, .slice none 0 0, .int .i64 0] 24)).drew) := below_dr (HB8.out.alloc HB8.out.size _)
        have HN0 : ¬ (w7.heap.size : Nat) = w.heap.size := by omega
        have HZ7 : Hid (BoxK (w7.alloc (.cells #[.int .i64 0, .int .i64 0, .slice none 0 0, .int .i64 0] 24)).drew w7.heap.size (.slice none 0 0) z0) := zero_new w7
        go_region_held3 (fun wx => wx.cell? ⟨w.heap.size, 0, none⟩ = some (.int .i64 S.d) ∧ wx.cell? ⟨w.heap.size, 1, none⟩ = some (.int .i64 S.w) ∧ wx.cell? ⟨w.heap.size, 2, none⟩ = some (.slice (some ⟨sb, so, none⟩) S.c.length ys) ∧ wx.cell? ⟨w.heap.size, 3, none⟩ = some (.int .i64 S.n)) (first | (refine ⟨?_, ?_, ?_, ?_⟩ <;> with_reducible assumption) | (simp only [World.cell?_setCell_far, ne_eq, not_false_eq_true, and_self, *]; done) | go_keep) (first
          | (refine (HCl.out _ HBd.out).mono ?_; rintro e w8 ⟨v8, rfl, own8, hb8⟩; obtain ⟨y8, k8, hv8⟩ := own8.shape; rw [hv8] at own8 ⊢; have g0 := keep_cell d0 hb8; have g1 := keep_cell d1 hb8; have g2 := keep_cell d2 hb8; have g3 := keep_cell d3 hb8; clear hv8)
          | (refine (HCl.out _ HBa.out).mono ?_; rintro e w8 ⟨v8, rfl, own8, hb8⟩; obtain ⟨y8, k8, hv8⟩ := own8.shape; rw [hv8] at own8 ⊢; have g0 := keep_cell e0 hb8; have g1 := keep_cell e1 hb8; have g2 := keep_cell e2 hb8; have g3 := keep_cell e3 hb8; have hz := HZ7.out.below hb8; obtain ⟨c0, c1, c2, c3⟩ := hz.cells; have u0 := hz.unfrozen 0; have u1 := hz.unfrozen 1; have u2 := hz.unfrozen 2; have u3 := hz.unfrozen 3; clear hv8))
        all_goals go_wp2
        all_goals go_meet
        case rel =>
          have hb2 : Below w7.heap.size w7 w8 := (below_dr (Below.refl w7.heap.size w7)).trans (show Below w7.heap.size w7.drew w8 from hb8)
          have ho : OwnI w8 w7.heap.size (.slice y8 S.c.length k8) S.c := own8
          exact ⟨w8.heap.size, _, rfl, heap_alloc_new w8 _, hb2.size, ho.below ((Below.refl _ w8).alloc (Nat.le_refl _) _) (Nat.le_refl _), hb2.alloc hb2.size _⟩
        case rel =>
          have hb1 : Below w7.heap.size w7 (w7.alloc (.cells #[.int .i64 0, .int .i64 0, .slice none 0 0, .int .i64 0] 24)).drew := below_dr ((Below.refl _ w7).alloc (Nat.le_refl _) _)
          have hb2 : Below w7.heap.size w7 w8 := hb1.trans (hb8.mono (by show w7.heap.size ≤ (w7.alloc _).heap.size; simp))
          have ho : OwnI w8 w7.heap.size (.slice y8 S.c.length k8) S.c := own8.base (by show w7.heap.size ≤ (w7.alloc _).heap.size; simp)
          have hgr := setK_grown w8 w7.heap.size (.slice y8 S.c.length k8) S
          exact ⟨w7.heap.size, _, rfl, hz.all _ S, Nat.le_refl _, ho.box hz hgr, Below.setK' hb2 (Nat.le_refl _) _ S⟩
      case rest =>
        obtain ⟨g, v8, rfl, hx, hgg, hown, hbw⟩ := hcut
        obtain ⟨y8, k8, rfl⟩ := hown.shape
        have HXS8 := hide (HXS7.out.below hbw)
        have HXB8 := hide (HXB7.out.below hbw)
        have HRBf := hide (fun wr (h : Below w7.heap.size w7 wr) => HRB7.out.below h (Nat.le_refl _))
        have HXBf := hide (fun wr (h : Below w7.heap.size w7 wr) => HXB7.out.below h)
        have HXSf := hide (fun wr (h : Below w7.heap.size w7 wr) => HXS7.out.below h)
        have HB8f := hide (fun wr (h : Below w7.heap.size w7 wr) => Below.next HB8.out h)
        have HBW := hide hbw
        have HB9 := hide (Below.next HB8.out hbw)
        have HW8 := hide hx
        have HO8 := hide hown
        clear b0 b1 b2 b3 HXB7 HRB7 HXS7 HB8 hbw hx hown HCl
        obtain ⟨b0, b1, b2, b3⟩ := HXS8.out.cells
        go_wp2
        clear b0 b1 b2 b3
        go_loopw [117, 19] (fun i lv wr => ∃ k : Nat, k ≤ S.d ∧ i = .int .i64 k ∧ lv = .int .i64 (P.least (fun i => P.hc S.w i q) S k) ∧ Below wc.heap.size wc wr) (fun i _ _ => S.d - (intOf i).toNat)
        case atStart => exact ⟨0, by omega, rfl, rfl, Below.refl _ _⟩
        case round =>
          obtain ⟨k, hk, rfl, rfl, hbl⟩ := hrel
          have HBl := hide hbl
          have hxs := HXS8.out.below hbl
          obtain ⟨b0, b1, b2, b3⟩ := hxs.cells
          by_cases hlt : k < S.d
          · have j0 : (0 : Int) ≤ (k : Int) := by omega
            have j1 : (k : Int) < (S.d : Int) := by omega
            have HC9 := hide (HCe.out k wr (by omega))
            have hplt := HLt.out k hlt
            have hsc := (Below.next HB9.out hbl).cell (p := ⟨sb, so + (k * S.w + P.hc S.w k q), none⟩) hsbs |>.trans (HSc.out _ hplt)
            have HSt : Hid (P.least (fun i => P.hc S.w i q) S (k + 1) = min (P.least (fun i => P.hc S.w i q) S k) (S.c.getD (k * S.w + P.hc S.w k q) 0)) := rfl
            have HXr := hide hxs
            generalize P.least (fun i => P.hc S.w i q) S k = m at *
            generalize S.c.getD (k * S.w + P.hc S.w k q) 0 = c at *
            generalize k * S.w + P.hc S.w k q = p at *
            have j2 : (0 : Int) ≤ (p : Int) := by omega
            have j3 : (p : Int) < (S.c.length : Int) := by omega
            clear hxs hbl
            by_cases hmc : c < m
            · have HM : Hid (P.least (fun i => P.hc S.w i q) S (k + 1) = c) := by show _ = _; rw [HSt.out]; omega
              have hd1 : decide (c < m) = true := by simpa using hmc
              clear HSt
              go_wp2_with (go_at_call 16; go_must (refine HC9.out.mono ?_); rintro e w9 ⟨rfl, hb9⟩; replace b0 := keep_cell b0 hb9; replace b1 := keep_cell b1 hb9; replace b2 := keep_cell b2 hb9; replace b3 := keep_cell b3 hb9; replace hsc := keep_cell hsc hb9; have HB10 := hide (Below.next HBl.out hb9); clear hb9)
              go_roundw
              case rel => exact ⟨k + 1, by omega, by go_num, by rw [HM.out], HB10.out⟩
              case measure => simp [intOf]; omega
            · have HM : Hid (P.least (fun i => P.hc S.w i q) S (k + 1) = m) := by show _ = _; rw [HSt.out]; omega
              have hd1 : decide (c < m) = false := by simpa using hmc
              clear HSt
              go_wp2_with (go_at_call 16; go_must (refine HC9.out.mono ?_); rintro e w9 ⟨rfl, hb9⟩; replace b0 := keep_cell b0 hb9; replace b1 := keep_cell b1 hb9; replace b2 := keep_cell b2 hb9; replace b3 := keep_cell b3 hb9; replace hsc := keep_cell hsc hb9; have HB10 := hide (Below.next HBl.out hb9); clear hb9)
              go_roundw
              case rel => exact ⟨k + 1, by omega, by go_num, by rw [HM.out], HB10.out⟩
              case measure => simp [intOf]; omega
          · obtain rfl : k = S.d := by omega
            have hdd : decide ((S.d : Int) < (S.d : Int)) = false := by simp
            have d5 : (P.tell S q != P.least (fun i => P.hc S.w i q) S S.d) = false := by simp [P.tell]
            have e4 : IntKind.i64.wrap (1152921504606846976 - S.n) = 1152921504606846976 - S.n := by rw [IntKind.wrap_i64]; omega
            have hbr := Below.trans HBW.out (hbl.mono HBW.out.size)
            have HBr := hide hbr
            have HBw := hide (HB8f.out wr hbr)
            have HXBr := hide (HXBf.out wr hbr)
            have HRBr := hide (HRBf.out wr hbr)
            have HWr := hide (HW8.out.below hbl)
            have HOr : Hid (OwnI wr w7.heap.size (.slice y8 S.c.length k8) S.c) := OwnK.below HO8.out hbl (Nat.le_refl _)
            generalize P.tell S q = tl at *
            generalize P.least (fun i => P.hc S.w i q) S S.d = ls at *
            clear hxs hbl hbr HXB8 HXS8 HW8 HO8 HB9
            by_cases hneg : n < 0
            · have d6 : decide (n < 0) = true := by simpa using hneg
              obtain rfl : f = 1 := by rw [← HF.out]; unfold P.adE; rw [if_pos hneg]
              obtain rfl := HAd2.out (by decide)
              obtain ⟨c0, c1, c2, c3⟩ := HXBr.out.cells
              simp [z0] at c0 c1 c2 c3
              have HSm : Hid (Calls Try.prog 12 #[.agg #[.int .i64 0, .int .i64 0, .slice xb 0 yb, .int .i64 0], .agg #[.int .i64 0, .int .i64 0, .slice none 0 0, .int .i64 0]] wr fun e w' => e = .returned (.bool true) ∧ Below wr.heap.size wr w') := SameSketch_yes (.slice xb 0 yb) (.slice none 0 0) z0 wr HRBr.out (row_z0 wr)
              clear hneg HAd1 HAd2 HF
              go_wp2_with (go_at_call 12; go_must (refine HSm.out.mono ?_); rintro e w10 ⟨rfl, hb10⟩)
              go_ret
              exact ⟨rfl, Below.next HBw.out hb10⟩
            · have d6 : decide (n < 0) = false := by simpa using hneg
              by_cases hbig : 1152921504606846976 < S.n + n
              · have d7 : decide (1152921504606846976 - S.n < n) = true := by simp; omega
                obtain rfl : f = 2 := by rw [← HF.out]; unfold P.adE; rw [if_neg hneg, if_pos hbig]
                obtain rfl := HAd2.out (by decide)
                obtain ⟨c0, c1, c2, c3⟩ := HXBr.out.cells
                simp [z0] at c0 c1 c2 c3
                have HSm : Hid (Calls Try.prog 12 #[.agg #[.int .i64 0, .int .i64 0, .slice xb 0 yb, .int .i64 0], .agg #[.int .i64 0, .int .i64 0, .slice none 0 0, .int .i64 0]] wr fun e w' => e = .returned (.bool true) ∧ Below wr.heap.size wr w') := SameSketch_yes (.slice xb 0 yb) (.slice none 0 0) z0 wr HRBr.out (row_z0 wr)
                clear hneg hbig HAd1 HAd2 HF
                go_wp2_with (go_at_call 12; go_must (refine HSm.out.mono ?_); rintro e w10 ⟨rfl, hb10⟩)
                go_ret
                exact ⟨rfl, Below.next HBw.out hb10⟩
              · have d7 : decide (1152921504606846976 - S.n < n) = false := by simp; omega
                have hnn : 0 ≤ n := by omega
                have hsum : S.n + n ≤ 1152921504606846976 := by omega
                obtain rfl : f = 0 := by rw [← HF.out]; unfold P.adE; rw [if_neg hneg, if_neg hbig]
                obtain rfl := HAd1.out rfl
                have e5 : IntKind.i64.wrap (S.n + n) = S.n + n := by rw [IntKind.wrap_i64]; omega
                obtain ⟨gg, gc, hv, hggl, hggs, _, hgc2, _, _⟩ := OwnI.place HOr.out hpos
                simp only [Value.slice.injEq] at hv
                obtain ⟨rfl, _, rfl⟩ := hv
                have hne1 : gg ≠ g := fun h => by
                  have := BoxK.ne HWr.out HOr.out
                  simp [Value.ownBlock] at this
                  exact this h
                have hne2 : gg ≠ w.heap.size := by omega
                unfold maxLen at hgc2
                obtain ⟨c0, c1, c2, c3⟩ := HWr.out.cells
                have cu := HWr.out.unfrozen 3
                clear hneg hbig HAd1 HAd2 HF
                go_upto_region 29 with fail
                have HW2 : Hid (BoxK (wr.setCell ⟨g, 3, none⟩ (.int .i64 (S.n + n))) g (.slice (some ⟨gg, 0, none⟩) S.c.length k8) ⟨S.d, S.w, S.c, S.n + n⟩) := HWr.out.num (S.n + n)
                have HO2 : Hid (OwnI (wr.setCell ⟨g, 3, none⟩ (.int .i64 (S.n + n))) w7.heap.size (.slice (some ⟨gg, 0, none⟩) S.c.length k8) (P.addK (fun i => P.hc S.w i q) S.w S.c n 0)) := by
                  rw [HKZ.out]; exact OwnI.box HOr.out HWr.out (setCell_grown wr g 3 (.int .i64 (S.n + n)))
                have hb2 := HBr.out.setCell (p := ⟨g, 3, none⟩) hgg (.int .i64 (S.n + n))
                have HB2 := hide hb2
                have HXS2 := hide (HXSf.out _ hb2)
                clear hb2 HWr HOr HBr HBw HXBr HRBr c0 c1 c2 c3 cu b0 b1 b2 b3 HBl HBW hgc2 hggs
                generalize wr.setCell ⟨g, 3, none⟩ (.int .i64 (S.n + n)) = W2 at *
                obtain ⟨b0, b1, b2, b3⟩ := HXS2.out.cells
                go_wp2
                clear b0 b1 b2 b3
                go_loopw [167] (fun i wr => ∃ k : Nat, k ≤ S.d ∧ i = .int .i64 k ∧ OwnI wr w7.heap.size (.slice (some ⟨gg, 0, none⟩) S.c.length k8) (P.addK (fun i => P.hc S.w i q) S.w S.c n k) ∧ BoxK wr g (.slice (some ⟨gg, 0, none⟩) S.c.length k8) ⟨S.d, S.w, S.c, S.n + n⟩ ∧ Below w7.heap.size w7 wr) (fun i _ => S.d - (intOf i).toNat)
                case atStart => exact ⟨0, by omega, rfl, HO2.out, HW2.out, HB2.out⟩
                case round =>
                  obtain ⟨k, hk, rfl, hown, hbx, hbl⟩ := hrel
                  have HBl := hide hbl
                  by_cases hlt : k < S.d
                  · have j0 : (0 : Int) ≤ (k : Int) := by omega
                    have j1 : (k : Int) < (S.d : Int) := by omega
                    have hxs := HXSf.out wr hbl
                    have hplt := HLt.out k hlt
                    have hcb := HCb.out k hlt
                    have HC9 := hide (HCe.out k wr.drew (by omega))
                    have hkl : 0 < (P.addK (fun i => P.hc S.w i q) S.w S.c n k).length := by rw [HKl.out]; exact hpos
                    have HSu := hide (HKSu.out k hlt)
                    rw [HKAt.out k hlt] at HSu
                    have HAt := hide (HKAt.out k hlt)
                    have HKl2 := hide (HKl.out k)
                    obtain ⟨p0, p1, p2, p3⟩ : _ ∧ _ ∧ _ ∧ _ := (show BoxK wr.drew w.heap.size _ S from hxs).cells
                    obtain ⟨_, _, p4, _⟩ : _ ∧ _ ∧ _ ∧ _ := (show BoxK wr.drew g _ _ from hbx).cells
                    have HXr : Hid (BoxK wr.drew w.heap.size (.slice (some ⟨sb, so, none⟩) S.c.length ys) S) := hxs
                    have HGr : Hid (BoxK wr.drew g (.slice (some ⟨gg, 0, none⟩) S.c.length k8) ⟨S.d, S.w, S.c, S.n + n⟩) := hbx
                    have HOr : Hid (OwnI wr.drew w7.heap.size (.slice (some ⟨gg, 0, none⟩) S.c.length k8) (P.addK (fun i => P.hc S.w i q) S.w S.c n k)) := hown
                    have HBd : Hid (Below w7.heap.size w7 wr.drew) := below_dr hbl
                    generalize P.addK (fun i => P.hc S.w i q) S.w S.c n k = ak at *
                    generalize hak : P.addK (fun i => P.hc S.w i q) S.w S.c n (k + 1) = ak1 at *
                    have HAk := hide hak
                    generalize S.c.getD (k * S.w + P.hc S.w k q) 0 = c at *
                    generalize k * S.w + P.hc S.w k q = p at *
                    have i0 : (0 : Int) ≤ (p : Int) := by omega
                    have i1 : (p : Int) < (S.c.length : Int) := by omega
                    have e6 : IntKind.i64.wrap (c + n) = c + n := by rw [IntKind.wrap_i64]; omega
                    clear hown hbx hbl hxs hak hcb HKSu HKAt
                    go_upto_region 32 with fail
                    go_region_law (go_simp; go_at_call 16; go_must (refine HC9.out.mono ?_); rintro e w9 ⟨rfl, hb9⟩; have x9 := HXr.out.below hb9; have g9 := HGr.out.below hb9; have o9 : OwnI w9 w7.heap.size (.slice (some ⟨gg, 0, none⟩) S.c.length k8) ak := OwnK.below HOr.out hb9 (Nat.le_refl _); obtain ⟨q0, q1, q2, q3⟩ := x9.cells; obtain ⟨_, _, q4, _⟩ := g9.cells; obtain ⟨_, _, hv9, _, _, _, _, hfz9, hcc9⟩ := o9.place hkl; simp only [Value.slice.injEq, Option.some.injEq, Addr.mk.injEq, and_true] at hv9; obtain ⟨rfl, hl9, rfl⟩ := hv9; clear hl9; have l9 := hcc9 p (by rw [HKl2.out]; exact hplt); rw [HAt.out] at l9; have f9 := hfz9 p; have x10 := x9.cell (j := p) hne2 (.int .i64 (c + n)); have g10 := g9.cell (j := p) hne1 (.int .i64 (c + n)); have o10 := o9.set (i := p) (c + n); rw [← HSu.out] at o10; have b10 := (Below.trans HBd.out (hb9.mono HBd.out.size)).setCell (p := ⟨gg, p, none⟩) hggl (.int .i64 (c + n)); have HF10 := hide (And.intro o10 (And.intro g10 b10)); clear hcc9 hfz9 x9 g9 o9 x10 g10 o10 b10 hb9)
                    all_goals
                      go_wp2
                      go_roundw
                      case rel => exact ⟨k + 1, by omega, by go_num, by rw [HAk.out]; exact HF10.out.1, HF10.out.2.1, HF10.out.2.2⟩
                      case measure => simp [intOf]; omega
                  · obtain rfl : k = S.d := by omega
                    rw [HKAll.out] at hown
                    have hxb := HXBf.out wr hbl
                    have HS : Hid (Calls Try.prog 12 #[.agg #[.int .i64 S.d, .int .i64 S.w, .slice xb (P.adS S q n).c.length yb, .int .i64 (S.n + n)], .agg #[.int .i64 S.d, .int .i64 S.w, .slice (some ⟨gg, 0, none⟩) S.c.length k8, .int .i64 (S.n + n)]] wr fun e w' => e = .returned (.bool true) ∧ Below wr.heap.size wr w') := SameSketch_yes _ _ (P.adS S q n) wr (HRBf.out wr hbl) (OwnK.row hown)
                    have HBw := hide (HB8f.out wr hbl)
                    have c0 : wr.cell? ⟨gb, 0, none⟩ = some (.int .i64 S.d) := hxb.cells.1
                    have c1 : wr.cell? ⟨gb, 1, none⟩ = some (.int .i64 S.w) := hxb.cells.2.1
                    have c2 : wr.cell? ⟨gb, 2, none⟩ = some (.slice xb (P.adS S q n).c.length yb) := hxb.cells.2.2.1
                    have c3 : wr.cell? ⟨gb, 3, none⟩ = some (.int .i64 (S.n + n)) := hxb.cells.2.2.2
                    have m0 : wr.cell? ⟨g, 0, none⟩ = some (.int .i64 S.d) := hbx.cells.1
                    have m1 : wr.cell? ⟨g, 1, none⟩ = some (.int .i64 S.w) := hbx.cells.2.1
                    have m2 : wr.cell? ⟨g, 2, none⟩ = some (.slice (some ⟨gg, 0, none⟩) S.c.length k8) := hbx.cells.2.2.1
                    have m3 : wr.cell? ⟨g, 3, none⟩ = some (.int .i64 (S.n + n)) := hbx.cells.2.2.2
                    clear hown hbx hbl hxb HRBf HXBf HXSf HB8f HBl HKSu HKAt HCb HLt HKAll HKl HKZ
                    generalize (P.adS S q n).c.length = ln at *
                    go_wp2_with (go_at_call 12; go_must (refine HS.out.mono ?_); rintro e w10 ⟨rfl, hb10⟩; have HB10 := hide (Below.next HBw.out hb10))
                    go_ret
                    exact ⟨rfl, HB10.out⟩
end Go.Proofs.Ytenfpkokogfdaaa
