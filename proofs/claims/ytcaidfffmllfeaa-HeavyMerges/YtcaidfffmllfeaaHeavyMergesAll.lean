/- HeavyMerges holds: at all two tallies the law answers true and changes nothing that was there (written by wip/mkhmg.py). -/
import Derived.Test.YtcaidfffmllfeaaRefHvFAll
import Derived.Test.YtcaidfffmllfeaaRefHvSAll
import Derived.Test.YtcaidfffmllfeaaRefHvMAll
import Derived.Deep.RegionHeld3
namespace Go.Proofs.Ytcaidfffmllfeaa
open Go.ChangeShapes Go.WideShapes Go.ChangeAt Go.RowKit
set_option linter.unusedVariables false
theorem P.mgE_cases (a b : P.Hv) : (¬ P.Good a ∧ P.mgE a b = 4) ∨ (P.Good a ∧ ¬ P.Good b ∧ P.mgE a b = 4) ∨ (P.Good a ∧ P.Good b ∧ a.k ≠ b.k ∧ P.mgE a b = 1) ∨ (P.Good a ∧ P.Good b ∧ a.k = b.k ∧ 1000000000 < a.n + b.n ∧ P.mgE a b = 2) ∨ (P.Good a ∧ P.Good b ∧ a.k = b.k ∧ ¬ 1000000000 < a.n + b.n ∧ P.mgE a b = 0) := by
  unfold P.mgE
  by_cases h1 : P.Good a
  · by_cases h2 : P.Good b
    · rw [if_neg (fun h => h.elim (fun h => h h1) (fun h => h h2))]
      by_cases h3 : a.k = b.k
      · rw [if_neg (not_not_intro h3)]
        by_cases h4 : 1000000000 < a.n + b.n
        · rw [if_pos h4]; exact .inr (.inr (.inr (.inl ⟨h1, h2, h3, h4, rfl⟩)))
        · rw [if_neg h4]; exact .inr (.inr (.inr (.inr ⟨h1, h2, h3, h4, rfl⟩)))
      · rw [if_pos h3]; exact .inr (.inr (.inl ⟨h1, h2, h3, rfl⟩))
    · rw [if_pos (.inr h2)]; exact .inr (.inl ⟨h1, h2, rfl⟩)
  · rw [if_pos (.inl h1)]; exact .inl ⟨h1, rfl⟩
/-- Merge in one contract. -/
theorem Merge_any (va vb : Value) (a b : P.Hv) (w : World) (ra : RowC w va a.l) (rb : RowC w vb b.l) (ia : HvI a) (ib : HvI b) : Calls Try.prog 17 #[aggH va a, aggH vb b] w fun e w' => ∃ (vs : Value) (S : P.Hv) (er : Int), e = .returned (.tuple #[aggH vs S, .int .i64 er]) ∧ RowC w' vs S.l ∧ Below w.heap.size w w' ∧
    (P.mgE a b ≠ 0 → S = z0 ∧ er = P.mgE a b) ∧ (P.mgE a b = 0 → S = P.uni a b ∧ er = 0) := by
  by_cases h0 : P.mgE a b = 0
  · refine (Merge_ok va vb a b w ra rb ia ib (P.mgE_two h0)).mono ?_
    rintro e w' ⟨v', rfl, ho, hb⟩
    exact ⟨v', _, 0, rfl, ho.row, hb, fun hn => absurd h0 hn, fun _ => ⟨rfl, rfl⟩⟩
  · refine (Merge_bad va vb a b w ra rb ia ib _ rfl h0).mono ?_
    rintro e w' ⟨rfl, hb⟩
    exact ⟨_, z0, _, rfl, RowX.nil _ _ _, hb, fun _ => ⟨rfl, rfl⟩, fun hn => absurd hn h0⟩
theorem row_zero' (w : World) : RowC w (.slice none 0 0) [] := RowX.nil _ _ _
set_option maxHeartbeats 4000000 in
set_option maxRecDepth 100000 in
theorem walk_HeavyMerges (va : Value) (a : P.Hv) (vb : Value) (b : P.Hv) (w : World) (ra : RowC w va a.l) (ia : HvI a) (rb : RowC w vb b.l) (ib : HvI b) :
    Calls Try.prog 4 #[aggH va a, aggH vb b] w fun e w' => e = .returned (.bool true) ∧ Below w.heap.size w w' := by
  have HM := hide (fun wx (hx : Below w.heap.size w wx) => Merge_any va vb a b wx (ra.below hx (Nat.le_refl _)) (rb.below hx (Nat.le_refl _)) ia ib)
  have HFa := hide (fun wx (hx : Below w.heap.size w wx) => heavyFault_any va a wx (ra.below hx (Nat.le_refl _)) ia)
  have HFb := hide (fun wx (hx : Below w.heap.size w wx) => heavyFault_any vb b wx (rb.below hx (Nat.le_refl _)) ib)
  have HTm := hide (fun wx (hx : Below w.heap.size w wx) h => talliesMerged_any va vb a b wx h (ra.below hx (Nat.le_refl _)) (rb.below hx (Nat.le_refl _)))
  obtain ⟨xa, ya, rfl⟩ := ra.shp
  obtain ⟨xb, yb, rfl⟩ := rb.shp
  have hB : Below w.heap.size w ((w.alloc (.cells #[.int .i64 a.k, .slice xa a.l.length ya, .int .i64 a.n, .int .i64 a.off] 24)).alloc (.cells #[.int .i64 b.k, .slice xb b.l.length yb, .int .i64 b.n, .int .i64 b.off] 24)) := ((Below.refl _ w).alloc (Nat.le_refl _) _).alloc (by simp) _
  have hX1 : BoxH ((w.alloc (.cells #[.int .i64 a.k, .slice xa a.l.length ya, .int .i64 a.n, .int .i64 a.off] 24)).alloc (.cells #[.int .i64 b.k, .slice xb b.l.length yb, .int .i64 b.n, .int .i64 b.off] 24)) w.heap.size (.slice xa a.l.length ya) a := (BoxH.new w _ a).below ((Below.refl _ _).alloc (Nat.le_refl _) _)
  have hX2 : BoxH ((w.alloc (.cells #[.int .i64 a.k, .slice xa a.l.length ya, .int .i64 a.n, .int .i64 a.off] 24)).alloc (.cells #[.int .i64 b.k, .slice xb b.l.length yb, .int .i64 b.n, .int .i64 b.off] 24)) (w.heap.size + 1) (.slice xb b.l.length yb) b := by
    have := BoxH.new (w.alloc (.cells #[.int .i64 a.k, .slice xa a.l.length ya, .int .i64 a.n, .int .i64 a.off] 24)) (.slice xb b.l.length yb) b
    simpa using this
  have HB := hide hB
  have HX1 := hide hX1
  have HX2 := hide hX2
  obtain ⟨a0, a1, a2, a3⟩ := hX1.cells
  obtain ⟨b0, b1, b2, b3⟩ := hX2.cells
  have HC := hide (P.mgE_cases a b)
  clear ra rb ia ib hB hX1 hX2
  go_enter Try.func4, Try.ntmps4
  go_upto_region 2 with (go_at_call 17; go_must (refine (HM.out _ HB.out).mono ?_); rintro e w3 ⟨vs, S, er, rfl, hrs, hb3, hM1, hM2⟩; obtain ⟨xs, ys, hvs⟩ := hrs.shp; subst hvs)
  have hA4 : Below w3.heap.size w3 (w3.alloc (.cells #[.int .i64 S.k, .slice xs S.l.length ys, .int .i64 S.n, .int .i64 S.off] 24)) := (Below.refl _ w3).alloc (Nat.le_refl _) _
  have HX14 := hide ((HX1.out.below hb3).below hA4)
  have HX24 := hide ((HX2.out.below hb3).below hA4)
  have HXS4 : Hid (BoxH (w3.alloc (.cells #[.int .i64 S.k, .slice xs S.l.length ys, .int .i64 S.n, .int .i64 S.off] 24)) w3.heap.size (.slice xs S.l.length ys) S) := BoxH.new w3 _ S
  have HRs4 := hide (hrs.below hA4 (Nat.le_refl _))
  have HB4 := hide (Below.next (Below.next HB.out hb3) hA4)
  have HM1 := hide hM1
  have HM2 := hide hM2
  clear a0 a1 a2 a3 b0 b1 b2 b3 hb3 hA4 hrs hM1 hM2 HX1 HX2 HB HM
  generalize w3.heap.size = gs at *
  generalize (w3.alloc (.cells #[.int .i64 S.k, .slice xs S.l.length ys, .int .i64 S.n, .int .i64 S.off] 24)) = W at *
  generalize P.mgE a b = me at *
  obtain ⟨a0, a1, a2, a3⟩ := HX14.out.cells
  rcases HC.out with ⟨g1, rfl⟩ | ⟨g1, g2, rfl⟩ | ⟨g1, g2, g3, rfl⟩ | ⟨g1, g2, g3, g4, rfl⟩ | ⟨g1, g2, g3, g4, rfl⟩
  · rw [P.chkH_not g1] at HFa
    obtain ⟨rfl, rfl⟩ := HM1.out (by decide)
    clear g1 HC HM1 HM2 HFb HTm
    go_wp2_with fail
    refine (HFa.out _ HB4.out).mono ?_
    rintro e w5 ⟨rfl, hb5⟩
    have HX15 := hide (HX14.out.below hb5)
    have HX25 := hide (HX24.out.below hb5)
    have HXS5 := hide (HXS4.out.below hb5)
    have HRs5 := hide (HRs4.out.below hb5 (Nat.le_refl _))
    have HB5 := hide (Below.next HB4.out hb5)
    clear a0 a1 a2 a3 HX14 HX24 HXS4 HRs4 HB4 hb5 HFa
    obtain ⟨a0, a1, a2, a3⟩ := HX15.out.cells
    obtain ⟨b0, b1, b2, b3⟩ := HX25.out.cells
    have HSm := hide (sameHeavy_same _ _ z0 _ HRs5.out (row_zero' w5))
    obtain ⟨c0, c1, c2, c3⟩ := HXS5.out.cells
    simp only [z0] at c0 c1 c2 c3 HSm
    go_wp2_with (go_at_call 12; go_must (refine HSm.out.mono ?_); rintro e w10 ⟨rfl, hb10⟩)
    go_ret
    exact ⟨rfl, Below.next HB5.out hb10⟩
  · rw [P.chkH_ok g1] at HFa
    rw [P.chkH_not g2] at HFb
    obtain ⟨rfl, rfl⟩ := HM1.out (by decide)
    clear g1 g2 HC HM1 HM2 HTm
    go_wp2_with fail
    refine (HFa.out _ HB4.out).mono ?_
    rintro e w5 ⟨rfl, hb5⟩
    have HX15 := hide (HX14.out.below hb5)
    have HX25 := hide (HX24.out.below hb5)
    have HXS5 := hide (HXS4.out.below hb5)
    have HRs5 := hide (HRs4.out.below hb5 (Nat.le_refl _))
    have HB5 := hide (Below.next HB4.out hb5)
    clear a0 a1 a2 a3 HX14 HX24 HXS4 HRs4 HB4 hb5 HFa
    obtain ⟨a0, a1, a2, a3⟩ := HX15.out.cells
    obtain ⟨b0, b1, b2, b3⟩ := HX25.out.cells
    go_wp2_with fail
    refine (HFb.out _ HB5.out).mono ?_
    rintro e w6 ⟨rfl, hb6⟩
    have HX16 := hide (HX15.out.below hb6)
    have HX26 := hide (HX25.out.below hb6)
    have HXS6 := hide (HXS5.out.below hb6)
    have HRs6 := hide (HRs5.out.below hb6 (Nat.le_refl _))
    have HB6 := hide (Below.next HB5.out hb6)
    clear a0 a1 a2 a3 b0 b1 b2 b3 HX15 HX25 HXS5 HRs5 HB5 hb6 HFb
    obtain ⟨a0, a1, a2, a3⟩ := HX16.out.cells
    obtain ⟨b0, b1, b2, b3⟩ := HX26.out.cells
    have HSm := hide (sameHeavy_same _ _ z0 _ HRs6.out (row_zero' w6))
    obtain ⟨c0, c1, c2, c3⟩ := HXS6.out.cells
    simp only [z0] at c0 c1 c2 c3 HSm
    go_wp2_with (go_at_call 12; go_must (refine HSm.out.mono ?_); rintro e w10 ⟨rfl, hb10⟩)
    go_ret
    exact ⟨rfl, Below.next HB6.out hb10⟩
  · rw [P.chkH_ok g1] at HFa
    rw [P.chkH_ok g2] at HFb
    obtain ⟨rfl, rfl⟩ := HM1.out (by decide)
    have dk : (a.k != b.k) = true := by simpa using g3
    clear g1 g2 g3 HC HM1 HM2 HTm
    go_wp2_with fail
    refine (HFa.out _ HB4.out).mono ?_
    rintro e w5 ⟨rfl, hb5⟩
    have HX15 := hide (HX14.out.below hb5)
    have HX25 := hide (HX24.out.below hb5)
    have HXS5 := hide (HXS4.out.below hb5)
    have HRs5 := hide (HRs4.out.below hb5 (Nat.le_refl _))
    have HB5 := hide (Below.next HB4.out hb5)
    clear a0 a1 a2 a3 HX14 HX24 HXS4 HRs4 HB4 hb5 HFa
    obtain ⟨a0, a1, a2, a3⟩ := HX15.out.cells
    obtain ⟨b0, b1, b2, b3⟩ := HX25.out.cells
    go_wp2_with fail
    refine (HFb.out _ HB5.out).mono ?_
    rintro e w6 ⟨rfl, hb6⟩
    have HX16 := hide (HX15.out.below hb6)
    have HX26 := hide (HX25.out.below hb6)
    have HXS6 := hide (HXS5.out.below hb6)
    have HRs6 := hide (HRs5.out.below hb6 (Nat.le_refl _))
    have HB6 := hide (Below.next HB5.out hb6)
    clear a0 a1 a2 a3 b0 b1 b2 b3 HX15 HX25 HXS5 HRs5 HB5 hb6 HFb
    obtain ⟨a0, a1, a2, a3⟩ := HX16.out.cells
    obtain ⟨b0, b1, b2, b3⟩ := HX26.out.cells
    have HSm := hide (sameHeavy_same _ _ z0 _ HRs6.out (row_zero' w6))
    obtain ⟨c0, c1, c2, c3⟩ := HXS6.out.cells
    simp only [z0] at c0 c1 c2 c3 HSm
    go_wp2_with (go_at_call 12; go_must (refine HSm.out.mono ?_); rintro e w10 ⟨rfl, hb10⟩)
    go_ret
    exact ⟨rfl, Below.next HB6.out hb10⟩
  · rw [P.chkH_ok g1] at HFa
    rw [P.chkH_ok g2] at HFb
    obtain ⟨rfl, rfl⟩ := HM1.out (by decide)
    have dk : (a.k != b.k) = false := by simpa using g3
    have n0 := g1.n0
    have n1 := g1.n1
    have n2 := g2.n0
    have n3 := g2.n1
    have dn : decide (1000000000 < a.n + b.n) = true := by simpa using g4
    clear g1 g2 g3 g4 HC HM1 HM2 HTm
    go_wp2_with fail
    refine (HFa.out _ HB4.out).mono ?_
    rintro e w5 ⟨rfl, hb5⟩
    have HX15 := hide (HX14.out.below hb5)
    have HX25 := hide (HX24.out.below hb5)
    have HXS5 := hide (HXS4.out.below hb5)
    have HRs5 := hide (HRs4.out.below hb5 (Nat.le_refl _))
    have HB5 := hide (Below.next HB4.out hb5)
    clear a0 a1 a2 a3 HX14 HX24 HXS4 HRs4 HB4 hb5 HFa
    obtain ⟨a0, a1, a2, a3⟩ := HX15.out.cells
    obtain ⟨b0, b1, b2, b3⟩ := HX25.out.cells
    go_wp2_with fail
    refine (HFb.out _ HB5.out).mono ?_
    rintro e w6 ⟨rfl, hb6⟩
    have HX16 := hide (HX15.out.below hb6)
    have HX26 := hide (HX25.out.below hb6)
    have HXS6 := hide (HXS5.out.below hb6)
    have HRs6 := hide (HRs5.out.below hb6 (Nat.le_refl _))
    have HB6 := hide (Below.next HB5.out hb6)
    clear a0 a1 a2 a3 b0 b1 b2 b3 HX15 HX25 HXS5 HRs5 HB5 hb6 HFb
    obtain ⟨a0, a1, a2, a3⟩ := HX16.out.cells
    obtain ⟨b0, b1, b2, b3⟩ := HX26.out.cells
    have HSm := hide (sameHeavy_same _ _ z0 _ HRs6.out (row_zero' w6))
    obtain ⟨c0, c1, c2, c3⟩ := HXS6.out.cells
    simp only [z0] at c0 c1 c2 c3 HSm
    go_wp2_with (go_at_call 12; go_must (refine HSm.out.mono ?_); rintro e w10 ⟨rfl, hb10⟩)
    go_ret
    exact ⟨rfl, Below.next HB6.out hb10⟩
  · rw [P.chkH_ok g1] at HFa
    rw [P.chkH_ok g2] at HFb
    obtain ⟨rfl, rfl⟩ := HM2.out rfl
    have dk : (a.k != b.k) = false := by simpa using g3
    have n0 := g1.n0
    have n1 := g1.n1
    have n2 := g2.n0
    have n3 := g2.n1
    have dn : decide (1000000000 < a.n + b.n) = false := by simpa using g4
    have h2 : P.Two a b := ⟨g1, g2, g3, by omega⟩
    have HTm2 := hide (fun wx hx => HTm.out wx hx h2)
    generalize P.uni a b = R at *
    clear g1 g2 g3 g4 h2 HC HM1 HM2 HTm
    go_wp2_with fail
    refine (HFa.out _ HB4.out).mono ?_
    rintro e w5 ⟨rfl, hb5⟩
    have HX15 := hide (HX14.out.below hb5)
    have HX25 := hide (HX24.out.below hb5)
    have HXS5 := hide (HXS4.out.below hb5)
    have HRs5 := hide (HRs4.out.below hb5 (Nat.le_refl _))
    have HB5 := hide (Below.next HB4.out hb5)
    clear a0 a1 a2 a3 HX14 HX24 HXS4 HRs4 HB4 hb5 HFa
    obtain ⟨a0, a1, a2, a3⟩ := HX15.out.cells
    obtain ⟨b0, b1, b2, b3⟩ := HX25.out.cells
    go_wp2_with fail
    refine (HFb.out _ HB5.out).mono ?_
    rintro e w6 ⟨rfl, hb6⟩
    have HX16 := hide (HX15.out.below hb6)
    have HX26 := hide (HX25.out.below hb6)
    have HXS6 := hide (HXS5.out.below hb6)
    have HRs6 := hide (HRs5.out.below hb6 (Nat.le_refl _))
    have HB6 := hide (Below.next HB5.out hb6)
    clear a0 a1 a2 a3 b0 b1 b2 b3 HX15 HX25 HXS5 HRs5 HB5 hb6 HFb
    obtain ⟨a0, a1, a2, a3⟩ := HX16.out.cells
    obtain ⟨b0, b1, b2, b3⟩ := HX26.out.cells
    obtain ⟨c0, c1, c2, c3⟩ := HXS6.out.cells
    go_upto_region 11 with fail
    have y0 : w6.drew.cell? ⟨w.heap.size, 0, none⟩ = some (.int .i64 a.k) := a0
    have y1 : w6.drew.cell? ⟨w.heap.size, 1, none⟩ = some (.slice xa a.l.length ya) := a1
    have y2 : w6.drew.cell? ⟨w.heap.size, 2, none⟩ = some (.int .i64 a.n) := a2
    have y3 : w6.drew.cell? ⟨w.heap.size, 3, none⟩ = some (.int .i64 a.off) := a3
    have y4 : w6.drew.cell? ⟨w.heap.size + 1, 0, none⟩ = some (.int .i64 b.k) := b0
    have y5 : w6.drew.cell? ⟨w.heap.size + 1, 1, none⟩ = some (.slice xb b.l.length yb) := b1
    have y6 : w6.drew.cell? ⟨w.heap.size + 1, 2, none⟩ = some (.int .i64 b.n) := b2
    have y7 : w6.drew.cell? ⟨w.heap.size + 1, 3, none⟩ = some (.int .i64 b.off) := b3
    have y8 : w6.drew.cell? ⟨gs, 0, none⟩ = some (.int .i64 R.k) := c0
    have y9 : w6.drew.cell? ⟨gs, 1, none⟩ = some (.slice xs R.l.length ys) := c1
    have y10 : w6.drew.cell? ⟨gs, 2, none⟩ = some (.int .i64 R.n) := c2
    have y11 : w6.drew.cell? ⟨gs, 3, none⟩ = some (.int .i64 R.off) := c3
    have HBd : Hid (Below w.heap.size w w6.drew) := below_dr HB6.out
    have HRd := hide (HRs6.out.below (below_dr (Below.refl _ w6)) (Nat.le_refl _))
    go_region_held3 (fun wx => wx.cell? ⟨w.heap.size, 0, none⟩ = some (.int .i64 a.k) ∧ wx.cell? ⟨w.heap.size, 1, none⟩ = some (.slice xa a.l.length ya) ∧ wx.cell? ⟨w.heap.size, 2, none⟩ = some (.int .i64 a.n) ∧ wx.cell? ⟨w.heap.size, 3, none⟩ = some (.int .i64 a.off) ∧ wx.cell? ⟨w.heap.size + 1, 0, none⟩ = some (.int .i64 b.k) ∧ wx.cell? ⟨w.heap.size + 1, 1, none⟩ = some (.slice xb b.l.length yb) ∧ wx.cell? ⟨w.heap.size + 1, 2, none⟩ = some (.int .i64 b.n) ∧ wx.cell? ⟨w.heap.size + 1, 3, none⟩ = some (.int .i64 b.off) ∧ wx.cell? ⟨gs, 0, none⟩ = some (.int .i64 R.k) ∧ wx.cell? ⟨gs, 1, none⟩ = some (.slice xs R.l.length ys) ∧ wx.cell? ⟨gs, 2, none⟩ = some (.int .i64 R.n) ∧ wx.cell? ⟨gs, 3, none⟩ = some (.int .i64 R.off)) (refine ⟨?_, ?_, ?_, ?_, ?_, ?_, ?_, ?_, ?_, ?_, ?_, ?_⟩ <;> with_reducible assumption) (first
      | (go_at_call 18; refine (HTm2.out _ HBd.out).mono ?_; rintro e w9 ⟨v9, rfl, own9, hb9⟩; obtain ⟨x9, k9, hv9⟩ := own9.shp; rw [hv9] at own9 ⊢; have t0 := keep_cell y0 hb9; have t1 := keep_cell y1 hb9; have t2 := keep_cell y2 hb9; have t3 := keep_cell y3 hb9; have t4 := keep_cell y4 hb9; have t5 := keep_cell y5 hb9; have t6 := keep_cell y6 hb9; have t7 := keep_cell y7 hb9; have t8 := keep_cell y8 hb9; have t9 := keep_cell y9 hb9; have t10 := keep_cell y10 hb9; have t11 := keep_cell y11 hb9; have HSm := hide (sameHeavy_same _ _ R w9 (HRd.out.below hb9 (Nat.le_refl _)) own9); have HB10 := hide (Below.next HBd.out hb9); clear hv9)
      | (go_at_call 12; refine HSm.out.mono ?_; rintro e w10 ⟨rfl, hb10⟩; have r0 := keep_cell t0 hb10; have r1 := keep_cell t1 hb10; have r2 := keep_cell t2 hb10; have r3 := keep_cell t3 hb10; have r4 := keep_cell t4 hb10; have r5 := keep_cell t5 hb10; have r6 := keep_cell t6 hb10; have r7 := keep_cell t7 hb10; have r8 := keep_cell t8 hb10; have r9 := keep_cell t9 hb10; have r10 := keep_cell t10 hb10; have r11 := keep_cell t11 hb10))
    go_wp2
    go_ret
    exact ⟨rfl, Below.next HB10.out hb10⟩
set_option maxRecDepth 100000 in
theorem lifted_HeavyMerges (os : Os) (started : os.Started) (H : Type) (enc : TypeId × Value → H) :
    ReturnsInHanded {} Try.checked os 4 .any (Rows.heavyMergesSpec.pre6 enc Try.prog Try.f4 Rows.heavyMergesRow.domain false) (Rows.heavyMergesSpec.post enc Try.prog Try.f4 false true false false) := by
  refine returnsInHanded_of_change_sized (C := Try.checked) own started (by kernel_rfl) Try.func4
    (ChangeSpec.witness6 (enc := enc) (C := Try.checked) false ⟨#[], #[.agg #[.int .i64 0, .slice none 0 0, .int .i64 0, .int .i64 0], .agg #[.int .i64 0, .slice none 0 0, .int .i64 0, .int .i64 0]], []⟩ 8 (by kernel_rfl) (by kernel_rfl) (by kernel_rfl) (by kernel_rfl)) ?_
  intro W base args ds gs before hval0 hW hcnd hsz0  _
  have hsz : (DataW.weightsEach Try.prog (Try.f4.params.toList ++ Rows.heavyMergesSpec.plain.varTypes Try.prog) (ds ++ gs)).all (· ≤ reachBytes) = true := hsz0
  have hval : ∀ (j : Nat) t v, Try.f4.params[j]? = some t → args[j]? = some v → Value.okWide Try.prog W .any base t v := hval0
  have hW' := hW
  obtain ⟨p, q, hA0, hV, rfl, hfz, hnd⟩ := hW
  have hA : DataW.TrodAll enc Try.prog W 0 (fun _ => true) true Try.f4.params.toList args.toList ds p := hA0
  rw [Try.params4] at hA hval hsz
  obtain ⟨v0, vs0, d0, ds0, p0, q0, hargs, rfl, rfl, h0, r0⟩ := trodAll_cons hA
  obtain ⟨v1, vs1, d1, ds1, p1, q1, rfl, rfl, rfl, h1, r1⟩ := trodAll_cons r0
  obtain ⟨rfl, rfl, rfl⟩ := trodAll_nil r1
  obtain rfl : args = #[v0, v1] := by cases args; simp_all
  obtain ⟨rfl, rfl⟩ := trodVars_none hV
  have k0 := h0
  have lt0 : ∀ x ∈ p0, x.block < W.heap.size := by obtain ⟨m, hm⟩ := k0; exact DataW.trod_lt m _ _ _ hm
  obtain ⟨lv0, x0, rfl, rk0, ri0⟩ := open_heavy (hval 0 24 v0 rfl rfl) h0
  have k1 := h1
  have lt1 : ∀ x ∈ p1, x.block < W.heap.size := by obtain ⟨m, hm⟩ := k1; exact DataW.trod_lt m _ _ _ hm
  obtain ⟨lv1, x1, rfl, rk1, ri1⟩ := open_heavy (hval 1 24 v1 rfl rfl) h1
  clear hA0 hval0
  refine (walk_HeavyMerges lv0 x0 lv1 x1 W rk0 ri0 rk1 ri1).mono fun e W' ⟨he, bel⟩ => ?_
  subst he
  exact ⟨_, rfl, _, _, _, [], _, [], hW', trodAll_mk1 (shut_bool Try.underlying4 _), (trodAll_cons_mk (Below.trod laidOut (by kernel_rfl) (of_decide_eq_true (by kernel_rfl)) k0 bel lt0) (trodAll_cons_mk (Below.trod laidOut (by kernel_rfl) (of_decide_eq_true (by kernel_rfl)) k1 bel lt1) trodAll_mk0)), rfl, bel.frame _, fun h => by cases h⟩

theorem proved_HeavyMerges : Rows.HeavyMergesSaid :=
  OpenClaim.holds_of_wide 4 Try.f4 rfl rfl rfl rfl rfl rfl rfl ⟨rfl, rfl, rfl, rfl, rfl⟩ rfl rfl rfl rfl rfl (by kernel_rfl) Try.func4 (by kernel_rfl)
    (of_decide_eq_true (by kernel_rfl)) (by unfold Func.isWrapper; first | (rw [if_pos (by decide +kernel)]; kernel_rfl) | (rw [if_neg (by decide +kernel)]; exact ⟨rfl, rfl⟩))
    (fun os started H enc _ => lifted_HeavyMerges os started H enc)
#print axioms proved_HeavyMerges
end Go.Proofs.Ytcaidfffmllfeaa
