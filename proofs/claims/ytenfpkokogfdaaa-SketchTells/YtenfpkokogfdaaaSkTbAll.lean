/- Several texts in one. -/
import Derived.Test.YtenfpkokogfdaaaSkTuAll
import Derived.Deep.RegionHeld3
/- SketchTells where the sketch may not stand. -/
namespace Go.Proofs.Ytenfpkokogfdaaa
open Go.RowKit
set_option linter.unusedVariables false
/-- The box of what came in as a sketch. -/
def BoxR (w : World) (g : Nat) (v : Value) (s : P.Rw) : Prop := w.heap[g]? = some (.cells #[.int .i64 s.d, .int .i64 s.w, v, .int .i64 s.n] 24 (0, 0))
theorem BoxR.new (w : World) (v : Value) (s : P.Rw) : BoxR (w.alloc (.cells #[.int .i64 s.d, .int .i64 s.w, v, .int .i64 s.n] 24)) w.heap.size v s := heap_alloc_new w _
theorem BoxR.below {w w' : World} {g : Nat} {v : Value} {s : P.Rw} (h : BoxR w g v s) (hb : Below w.heap.size w w') : BoxR w' g v s := (hb.block g (Array.getElem?_eq_some_iff.1 h).1).trans h
theorem BoxR.cells {w : World} {g : Nat} {v : Value} {s : P.Rw} (h : BoxR w g v s) :
    w.cell? ⟨g, 0, none⟩ = some (.int .i64 s.d) ∧ w.cell? ⟨g, 1, none⟩ = some (.int .i64 s.w) ∧ w.cell? ⟨g, 2, none⟩ = some v ∧ w.cell? ⟨g, 3, none⟩ = some (.int .i64 s.n) := by
  unfold BoxR at h; simp [World.cell?, h]
set_option maxRecDepth 100000 in
set_option maxHeartbeats 8000000 in
theorem tells_bad (d x : Int) (cv : Value) (s : P.Rw) (q : ByteArray) (n : Int) (w : World) (hr : RowK .i64 w cv s.c) (hi : RwI s) (hg : ¬ P.GoodR s) (hq : q.size ≤ 140737488351232) (hm0 : -9223372036854775808 ≤ n) (hm1 : n ≤ 9223372036854775807) :
    Calls Try.prog 3 #[.int .i64 d, .int .i64 x, aggS cv s, .string q, .int .i64 n] w fun e w' => e = .returned (.bool true) ∧ Below w.heap.size w w' := by
  have HE := hide (fun wx => Empty_any d x wx)
  have HA := hide (fun wx (hb : Below w.heap.size w wx) => Add_bad cv s q n wx (hr.below hb (Nat.le_refl _)) hi hg)
  have HCt := hide (fun wx (hb : Below w.heap.size w wx) => Count_bad cv s q wx (hr.below hb (Nat.le_refl _)) hi hg)
  have HFt : Hid (∀ wx, Below w.heap.size w wx → Calls Try.prog 13 #[.agg #[.int .i64 s.d, .int .i64 s.w, cv, .int .i64 s.n]] wx fun e w' => e = .returned (.int .i64 4) ∧ Below wx.heap.size wx w') := fun wx h => by
    have := Fault_any cv s wx (hr.below h (Nat.le_refl _))
    rw [P.chkS_no hg] at this; exact this
  have HCk : Hid (∀ wx, Below w.heap.size w wx → Calls Try.prog 14 #[.agg #[.int .i64 s.d, .int .i64 s.w, cv, .int .i64 s.n]] wx fun e w' => e = .returned (.int .i64 4) ∧ Below wx.heap.size wx w') := fun wx h => by
    have := Check_any cv s wx (hr.below h (Nat.le_refl _)) hi
    rw [P.chkS_no hg] at this; exact this
  have HB := hide ((Below.refl w.heap.size w).alloc (Nat.le_refl _) (.cells #[.int .i64 s.d, .int .i64 s.w, cv, .int .i64 s.n] 24))
  have HX := hide (BoxR.new w cv s)
  obtain ⟨xs, ys, rfl⟩ := hr.shp
  clear hg hr hi
  go_enter Try.func3, Try.ntmps3
  go_upto_region 1 with fail
  generalize w.alloc (.cells #[.int .i64 s.d, .int .i64 s.w, .slice xs s.c.length ys, .int .i64 s.n] 24) = W0 at *
  go_upto_region 2 with (go_at_call 9; go_must (refine (HE.out _).mono ?_); rintro e w1 ⟨va, A, er, rfl, hra, hb1, hE1, hE2⟩; obtain ⟨xa, ya, hva⟩ := hra.shp; subst hva)
  have hA1 : Below w1.heap.size w1 (w1.alloc (.cells #[.int .i64 A.d, .int .i64 A.w, .slice xa A.c.length ya, .int .i64 A.n] 24)) := (Below.refl _ w1).alloc (Nat.le_refl _) _
  have HXS1 := hide ((HX.out.below hb1).below hA1)
  have HXA1 : Hid (BoxK (w1.alloc (.cells #[.int .i64 A.d, .int .i64 A.w, .slice xa A.c.length ya, .int .i64 A.n] 24)) w1.heap.size (.slice xa A.c.length ya) A) := BoxK.new w1 _ A
  have HRA1 := hide (hra.below hA1 (Nat.le_refl _))
  have HB2 := hide (Below.next (Below.next HB.out hb1) hA1)
  have HE1 := hide hE1
  have HE2 := hide hE2
  obtain ⟨b0, b1, b2, b3⟩ := HXS1.out.cells
  clear hb1 hA1 hra hE1 hE2 HX HB HE
  generalize w1.heap.size = ga at *
  generalize (w1.alloc (.cells #[.int .i64 A.d, .int .i64 A.w, .slice xa A.c.length ya, .int .i64 A.n] 24)) = W1 at *
  have HA1 := hide (HA.out W1 HB2.out)
  clear HA
  go_upto_region 3 with (go_at_call 10; go_must (refine HA1.out.mono ?_); rintro e w3 ⟨rfl, hb3⟩)
  have hA4 : Below w3.heap.size w3 (w3.alloc (.cells #[.int .i64 0, .int .i64 0, .slice none 0 0, .int .i64 0] 24)) := (Below.refl _ w3).alloc (Nat.le_refl _) _
  have HXS2 := hide ((HXS1.out.below hb3).below hA4)
  have HXA2 := hide ((HXA1.out.below hb3).below hA4)
  have HRA2 := hide ((HRA1.out.below hb3 (Nat.le_refl _)).below hA4 (Nat.le_refl _))
  have HXB2 : Hid (BoxK (w3.alloc (.cells #[.int .i64 0, .int .i64 0, .slice none 0 0, .int .i64 0] 24)) w3.heap.size (.slice none 0 0) z0) := zero_new w3
  have HB4 := hide (Below.next (Below.next HB2.out hb3) hA4)
  clear b0 b1 b2 b3 hb3 hA4 HXS1 HXA1 HRA1 HB2 HA1
  generalize w3.heap.size = gb at *
  generalize (w3.alloc (.cells #[.int .i64 0, .int .i64 0, .slice none 0 0, .int .i64 0] 24)) = W2 at *
  obtain ⟨b0, b1, b2, b3⟩ := HXS2.out.cells
  go_upto_region 4 with (go_at_call 11; go_must (refine (HCt.out _ HB4.out).mono ?_); rintro e w4 ⟨rfl, hb4⟩)
  have HXS := hide (HXS2.out.below hb4)
  have HXA := hide (HXA2.out.below hb4)
  have HRA := hide (HRA2.out.below hb4 (Nat.le_refl _))
  have HXB := hide (HXB2.out.below hb4)
  have HB5 := hide (Below.next HB4.out hb4)
  clear b0 b1 b2 b3 HXS2 HXA2 HRA2 HXB2 HB4 hb4 HCt
  go_cut [55] from 42 to 55 (fun c wc => c = .bool (P.odB d x) ∧ w4 = wc)
  case first =>
    by_cases h1 : d < 1
    · have d1 : decide (d < 1) = true := by simpa using h1
      have HD : Hid (P.odB d x = true) := by show _ = _; unfold P.odB P.arB; simp; omega
      clear h1
      go_wp2
      go_meet
      exact ⟨by rw [HD.out], rfl⟩
    · have d1 : decide (d < 1) = false := by simpa using h1
      by_cases h2 : 8 < d
      · have d2 : decide (8 < d) = true := by simpa using h2
        have HD : Hid (P.odB d x = true) := by show _ = _; unfold P.odB P.arB; simp; omega
        clear h1 h2
        go_wp2
        go_meet
        exact ⟨by rw [HD.out], rfl⟩
      · have d2 : decide (8 < d) = false := by simpa using h2
        by_cases h3 : x < 1
        · have d3 : decide (x < 1) = true := by simpa using h3
          have HD : Hid (P.odB d x = true) := by show _ = _; unfold P.odB P.arB; simp; omega
          clear h1 h2 h3
          go_wp2
          go_meet
          exact ⟨by rw [HD.out], rfl⟩
        · have d3 : decide (x < 1) = false := by simpa using h3
          by_cases h4 : 200 < x
          · have d4 : decide (200 < x) = true := by simpa using h4
            have HD : Hid (P.odB d x = true) := by show _ = _; unfold P.odB P.arB; simp; omega
            clear h1 h2 h3 h4
            go_wp2
            go_meet
            exact ⟨by rw [HD.out], rfl⟩
          · have d4 : decide (200 < x) = false := by simpa using h4
            have HD : Hid (P.odB d x = false) := by show _ = _; unfold P.odB P.arB; simp; omega
            clear h1 h2 h3 h4
            go_wp2
            go_meet
            exact ⟨by rw [HD.out], rfl⟩
  case rest =>
    obtain ⟨rfl, rfl⟩ := hcut
    go_upto_if 55 with fail
    go_cut [] from 42 to 77 (fun wc => Below w4.heap.size w4 wc)
    case first =>
      obtain ⟨a0, a1, a2, a3⟩ := HXA.out.cells
      cases harB : P.arB d x with
      | false =>
        obtain ⟨hva, rfl, rfl⟩ := HE2.out harB
        have hod : P.odB d x = true := by unfold P.odB; rw [harB]; rfl
        rw [hod]
        have HSm := hide (SameZero w4)
        rw [hva] at a2
        simp [z0] at a0 a1 a2 a3
        clear hod harB hva
        go_wp2_with (go_at_call 12; go_must (refine HSm.out.mono ?_); rintro e w5 ⟨rfl, hb5⟩)
        go_meet
        exact hb5
      | true =>
        have hod : P.odB d x = false := by unfold P.odB; rw [harB]; rfl
        rw [hod]
        have h2 := harB
        unfold P.arB at h2
        simp at h2
        obtain ⟨D, rfl⟩ : ∃ D : Nat, d = D := ⟨d.toNat, by omega⟩
        obtain ⟨X, rfl⟩ : ∃ X : Nat, x = X := ⟨x.toNat, by omega⟩
        obtain ⟨rfl, rfl⟩ := HE1.out D X rfl rfl harB
        have hdx : D * X ≤ 1600 := Nat.mul_le_mul (show D ≤ 8 by omega) (show X ≤ 200 by omega)
        have e1 : IntKind.i64.wrap ((D : Int) * (X : Int)) = ((D * X : Nat) : Int) := by
          rw [← Int.natCast_mul, IntKind.wrap_i64]
          generalize D * X = z at hdx
          omega
        have hlz : (P.skEmp D X).c.length = D * X := by simp [P.skEmp]
        have hmk := run_make_row' (P := Try.prog) 22 2 (.int .i64 0) 8 Try.underlying22 Try.info2 rfl .i64 .i64 (D * X) (by omega) (by omega) w4.drew
        have hbm : Below w4.heap.size w4 (w4.alloc (.cells (madeCells #[.int .i64 0] (D * X)) 2)).drew := below_dr ((Below.refl _ w4).alloc (Nat.le_refl _) _)
        have hmo : OwnI (w4.alloc (.cells (madeCells #[.int .i64 0] (D * X)) 2)).drew w4.heap.size (.slice (some ⟨w4.heap.size, 0, none⟩) (D * X) (D * X)) (List.replicate (D * X) 0) := made_own w4.drew w4.heap.size (D * X) (Nat.le_refl _) hdx
        have hS := SameSketch_yes (.slice xa (P.skEmp D X).c.length ya) (.slice (some ⟨w4.heap.size, 0, none⟩) (D * X) (D * X)) (P.skEmp D X) _ (HRA.out.below hbm (Nat.le_refl _)) (OwnK.row hmo)
        rw [hlz] at hS a2
        have HS := hide hS
        have HBm := hide hbm
        have a0' : w4.cell? ⟨ga, 0, none⟩ = some (.int .i64 D) := a0
        have a1' : w4.cell? ⟨ga, 1, none⟩ = some (.int .i64 X) := a1
        have a3' : w4.cell? ⟨ga, 3, none⟩ = some (.int .i64 0) := a3
        have p0 : w4.drew.cell? ⟨ga, 0, none⟩ = some (.int .i64 D) := a0'
        have p1 : w4.drew.cell? ⟨ga, 1, none⟩ = some (.int .i64 X) := a1'
        have p2 : w4.drew.cell? ⟨ga, 2, none⟩ = some (.slice xa (D * X) ya) := a2
        have p3 : w4.drew.cell? ⟨ga, 3, none⟩ = some (.int .i64 0) := a3'
        have k0 : (w4.alloc (.cells (madeCells #[.int .i64 0] (D * X)) 2)).drew.cell? ⟨ga, 0, none⟩ = some (.int .i64 D) := keep_alloc a0' _
        have k1 : (w4.alloc (.cells (madeCells #[.int .i64 0] (D * X)) 2)).drew.cell? ⟨ga, 1, none⟩ = some (.int .i64 X) := keep_alloc a1' _
        have k2 : (w4.alloc (.cells (madeCells #[.int .i64 0] (D * X)) 2)).drew.cell? ⟨ga, 2, none⟩ = some (.slice xa (D * X) ya) := keep_alloc a2 _
        have k3 : (w4.alloc (.cells (madeCells #[.int .i64 0] (D * X)) 2)).drew.cell? ⟨ga, 3, none⟩ = some (.int .i64 0) := keep_alloc a3' _
        clear a0 a1 a2 a3 a0' a1' a3' hS hbm hmo hlz h2 hod harB HE1 HE2 HRA
        generalize D * X = z at *
        go_upto_region 7 with fail
        go_region_held3 (fun wx => wx.cell? ⟨ga, 0, none⟩ = some (.int .i64 D) ∧ wx.cell? ⟨ga, 1, none⟩ = some (.int .i64 X) ∧ wx.cell? ⟨ga, 2, none⟩ = some (.slice xa z ya) ∧ wx.cell? ⟨ga, 3, none⟩ = some (.int .i64 0)) (refine ⟨?_, ?_, ?_, ?_⟩ <;> with_reducible assumption) (first
          | (go_at_call 12; refine HS.out.mono ?_; rintro e w5 ⟨rfl, hb5⟩; have HB5x := hide (Below.next HBm.out hb5); have m0 := keep_cell k0 hb5; have m1 := keep_cell k1 hb5; have m2 := keep_cell k2 hb5; have m3 := keep_cell k3 hb5; clear hb5))
        all_goals
          go_wp2
          go_meet
          exact HB5x.out
    case rest =>
      have HXS5 := hide (HXS.out.below hcut)
      have HXB5 := hide (HXB.out.below hcut)
      have HB6 := hide (Below.next HB5.out hcut)
      obtain ⟨b0, b1, b2, b3⟩ := HXS5.out.cells
      clear hcut HXS HXA HXB HB5 HE1 HE2 HRA
      go_wp2_with fail
      refine (HFt.out _ HB6.out).mono ?_
      rintro e w6 ⟨rfl, hb6⟩
      have HXS6 := hide (HXS5.out.below hb6)
      have HXB6 := hide (HXB5.out.below hb6)
      have HB7 := hide (Below.next HB6.out hb6)
      clear b0 b1 b2 b3 HXS5 HXB5 HB6 hb6 HFt
      obtain ⟨b0, b1, b2, b3⟩ := HXS6.out.cells
      go_wp2_with fail
      refine (HCk.out _ HB7.out).mono ?_
      rintro e w7 ⟨rfl, hb7⟩
      have HXB7 := hide (HXB6.out.below hb7)
      have HB8 := hide (Below.next HB7.out hb7)
      clear b0 b1 b2 b3 HXS6 HXB6 HB7 hb7 HCk
      obtain ⟨c0, c1, c2, c3⟩ := HXB7.out.cells
      simp [z0] at c0 c1 c2 c3
      have HSm := hide (SameZero w7)
      go_wp2_with (go_at_call 12; go_must (refine HSm.out.mono ?_); rintro e w10 ⟨rfl, hb10⟩)
      go_ret
      exact ⟨rfl, Below.next HB8.out hb10⟩
end Go.Proofs.Ytenfpkokogfdaaa
