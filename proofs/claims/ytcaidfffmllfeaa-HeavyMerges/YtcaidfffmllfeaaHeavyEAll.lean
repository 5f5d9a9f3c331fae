/- Several texts in one. -/
import Derived.Test.YtcaidfffmllfeaaHeavyDAll
/- What Merge and Count answer (Merge written by wip/mkhm.py). -/
namespace Go.Proofs.Ytcaidfffmllfeaa
open Go.RowKit
set_option linter.unusedVariables false
namespace P
open Classical in
/-- The error of two that are merged. -/
noncomputable def mgE (a b : Hv) : Int := if ¬ Good a ∨ ¬ Good b then 4 else if a.k ≠ b.k then 1 else if 1000000000 < a.n + b.n then 2 else 0
theorem mgE_two {a b : Hv} (h : mgE a b = 0) : Two a b := by
  unfold mgE at h
  by_cases h1 : ¬ Good a ∨ ¬ Good b
  · rw [if_pos h1] at h; cases h
  · rw [if_neg h1] at h
    by_cases h2 : a.k ≠ b.k
    · rw [if_pos h2] at h; cases h
    · rw [if_neg h2] at h
      by_cases h3 : 1000000000 < a.n + b.n
      · rw [if_pos h3] at h; cases h
      · exact ⟨Classical.byContradiction fun h4 => h1 (.inl h4), Classical.byContradiction fun h4 => h1 (.inr h4), Classical.byContradiction fun h4 => h2 h4, by omega⟩
end P
theorem boxes3 (va vb : Value) (a b : P.Hv) (w : World) :
    BoxH (((w.alloc (.cells #[.int .i64 a.k, va, .int .i64 a.n, .int .i64 a.off] 24)).alloc (.cells #[.int .i64 b.k, vb, .int .i64 b.n, .int .i64 b.off] 24)).alloc (.cells #[.int .i64 0, .slice none 0 0, .int .i64 0, .int .i64 0] 24)) w.heap.size va a ∧ BoxH (((w.alloc (.cells #[.int .i64 a.k, va, .int .i64 a.n, .int .i64 a.off] 24)).alloc (.cells #[.int .i64 b.k, vb, .int .i64 b.n, .int .i64 b.off] 24)).alloc (.cells #[.int .i64 0, .slice none 0 0, .int .i64 0, .int .i64 0] 24)) (w.heap.size + 1) vb b ∧ BoxH (((w.alloc (.cells #[.int .i64 a.k, va, .int .i64 a.n, .int .i64 a.off] 24)).alloc (.cells #[.int .i64 b.k, vb, .int .i64 b.n, .int .i64 b.off] 24)).alloc (.cells #[.int .i64 0, .slice none 0 0, .int .i64 0, .int .i64 0] 24)) (w.heap.size + 2) (.slice none 0 0) z0 ∧ Below w.heap.size w (((w.alloc (.cells #[.int .i64 a.k, va, .int .i64 a.n, .int .i64 a.off] 24)).alloc (.cells #[.int .i64 b.k, vb, .int .i64 b.n, .int .i64 b.off] 24)).alloc (.cells #[.int .i64 0, .slice none 0 0, .int .i64 0, .int .i64 0] 24)) := by
  refine ⟨((BoxH.new w va a).below ((Below.refl _ _).alloc (Nat.le_refl _) _)).below ((Below.refl _ _).alloc (Nat.le_refl _) _), ?_, ?_, (((Below.refl _ w).alloc (Nat.le_refl _) _).alloc (by simp) _).alloc (by simp; omega) _⟩
  · have := (BoxH.new (w.alloc (.cells (cellsH va a) 24)) vb b).below ((Below.refl _ _).alloc (Nat.le_refl _) (.cells (cellsH (.slice none 0 0) z0) 24))
    simpa [cellsH, z0] using this
  · have := BoxH.new ((w.alloc (.cells (cellsH va a) 24)).alloc (.cells (cellsH vb b) 24)) (.slice none 0 0) z0
    simpa [cellsH, z0] using this
set_option maxRecDepth 100000 in
set_option maxHeartbeats 2000000 in
theorem Merge_a (va vb : Value) (a b : P.Hv) (w : World) (ra : RowC w va a.l) (rb : RowC w vb b.l) (ia : HvI a) (ib : HvI b) (ha : ¬ P.Good a) :
    Calls Try.prog 17 #[aggH va a, aggH vb b] w fun e w' => e = .returned (.tuple #[zeroH, .int .i64 4]) ∧ Below w.heap.size w w' := by
  obtain ⟨X1, X2, X3, hB⟩ := boxes3 va vb a b w
  have HB := hide hB
  have HX1 := hide X1
  have HX2 := hide X2
  have HX3 := hide X3
  have HKa := hide (fun wx (hb : Below w.heap.size w wx) => check_any va a wx (ra.below hb (Nat.le_refl _)) ia)
  have HKb := hide (fun wx (hb : Below w.heap.size w wx) => check_any vb b wx (rb.below hb (Nat.le_refl _)) ib)
  rw [P.chkH_not ha] at HKa
  clear ra rb X1 X2 X3 hB
  go_enter Try.func17, Try.ntmps17
  go_wp2_with (go_at_call 14; refine (HKa.out _ HB.out).mono ?_; rintro e w1 ⟨rfl, hb1⟩; have HBa := hide (Below.next HB.out hb1); have z1 := HX3.out.below hb1; have x1 := HX1.out.below hb1; have x2 := HX2.out.below hb1; obtain ⟨c0, c1, c2, c3⟩ := z1.cells; have u0 := z1.unfrozen 0; have u1 := z1.unfrozen 1; have u2 := z1.unfrozen 2; have u3 := z1.unfrozen 3; clear hb1)
  have z2 := z1.all (.slice none 0 0) z0
  have b2 : Below w.heap.size w (setH w1 (w.heap.size + 2) (.slice none 0 0) z0) := Below.setH' HBa.out (by omega) _ _
  obtain ⟨r0, r1, r2, r3⟩ := z2.cells
  refine bodyPost_ret (w := setH w1 (w.heap.size + 2) (.slice none 0 0) z0) (v := .tuple #[zeroH, .int .i64 4]) ?_ rfl ⟨rfl, b2⟩
  generalize setH w1 (w.heap.size + 2) (.slice none 0 0) z0 = wf at *
  simp only [z0] at r0 r1 r2 r3
  simp [results, Try.results17, go_sem, r0, r1, r2, r3]
set_option maxRecDepth 100000 in
set_option maxHeartbeats 2000000 in
theorem Merge_b (va vb : Value) (a b : P.Hv) (w : World) (ra : RowC w va a.l) (rb : RowC w vb b.l) (ia : HvI a) (ib : HvI b) (ha : P.Good a) (hb : ¬ P.Good b) :
    Calls Try.prog 17 #[aggH va a, aggH vb b] w fun e w' => e = .returned (.tuple #[zeroH, .int .i64 4]) ∧ Below w.heap.size w w' := by
  obtain ⟨X1, X2, X3, hB⟩ := boxes3 va vb a b w
  have HB := hide hB
  have HX1 := hide X1
  have HX2 := hide X2
  have HX3 := hide X3
  have HKa := hide (fun wx (hb : Below w.heap.size w wx) => check_any va a wx (ra.below hb (Nat.le_refl _)) ia)
  have HKb := hide (fun wx (hb : Below w.heap.size w wx) => check_any vb b wx (rb.below hb (Nat.le_refl _)) ib)
  rw [P.chkH_ok ha] at HKa
  rw [P.chkH_not hb] at HKb
  clear ra rb X1 X2 X3 hB
  go_enter Try.func17, Try.ntmps17
  go_upto_region 4 with (go_at_call 14; refine (HKa.out _ HB.out).mono ?_; rintro e w1 ⟨rfl, hb1⟩; have HBa := hide (Below.next HB.out hb1); have z1 := HX3.out.below hb1; have x1 := HX1.out.below hb1; have x2 := HX2.out.below hb1; obtain ⟨d0, d1, d2, d3⟩ := x2.cells; clear hb1)
  go_wp2_with (go_at_call 14; refine (HKb.out _ HBa.out).mono ?_; rintro e w2 ⟨rfl, hb2⟩; have HBb := hide (Below.next HBa.out hb2); replace z1 := z1.below hb2; replace x1 := x1.below hb2; replace x2 := x2.below hb2; obtain ⟨c0, c1, c2, c3⟩ := z1.cells; have u0 := z1.unfrozen 0; have u1 := z1.unfrozen 1; have u2 := z1.unfrozen 2; have u3 := z1.unfrozen 3; obtain ⟨d0, d1, d2, d3⟩ := x1.cells; obtain ⟨e0, e1, e2, e3⟩ := x2.cells; clear hb2)
  have z2 := z1.all (.slice none 0 0) z0
  have b2 : Below w.heap.size w (setH w2 (w.heap.size + 2) (.slice none 0 0) z0) := Below.setH' HBb.out (by omega) _ _
  obtain ⟨r0, r1, r2, r3⟩ := z2.cells
  refine bodyPost_ret (w := setH w2 (w.heap.size + 2) (.slice none 0 0) z0) (v := .tuple #[zeroH, .int .i64 4]) ?_ rfl ⟨rfl, b2⟩
  generalize setH w2 (w.heap.size + 2) (.slice none 0 0) z0 = wf at *
  simp only [z0] at r0 r1 r2 r3
  simp [results, Try.results17, go_sem, r0, r1, r2, r3]
set_option maxRecDepth 100000 in
set_option maxHeartbeats 2000000 in
theorem Merge_k (va vb : Value) (a b : P.Hv) (w : World) (ra : RowC w va a.l) (rb : RowC w vb b.l) (ia : HvI a) (ib : HvI b) (ha : P.Good a) (hb : P.Good b) (hk : a.k ≠ b.k) :
    Calls Try.prog 17 #[aggH va a, aggH vb b] w fun e w' => e = .returned (.tuple #[zeroH, .int .i64 1]) ∧ Below w.heap.size w w' := by
  obtain ⟨X1, X2, X3, hB⟩ := boxes3 va vb a b w
  have HB := hide hB
  have HX1 := hide X1
  have HX2 := hide X2
  have HX3 := hide X3
  have HKa := hide (fun wx (hb : Below w.heap.size w wx) => check_any va a wx (ra.below hb (Nat.le_refl _)) ia)
  have HKb := hide (fun wx (hb : Below w.heap.size w wx) => check_any vb b wx (rb.below hb (Nat.le_refl _)) ib)
  rw [P.chkH_ok ha] at HKa
  rw [P.chkH_ok hb] at HKb
  have hd : (a.k != b.k) = true := by simpa using hk
  clear hk
  clear ra rb X1 X2 X3 hB
  go_enter Try.func17, Try.ntmps17
  go_upto_region 4 with (go_at_call 14; refine (HKa.out _ HB.out).mono ?_; rintro e w1 ⟨rfl, hb1⟩; have HBa := hide (Below.next HB.out hb1); have z1 := HX3.out.below hb1; have x1 := HX1.out.below hb1; have x2 := HX2.out.below hb1; obtain ⟨d0, d1, d2, d3⟩ := x2.cells; clear hb1)
  go_wp2_with (go_at_call 14; refine (HKb.out _ HBa.out).mono ?_; rintro e w2 ⟨rfl, hb2⟩; have HBb := hide (Below.next HBa.out hb2); replace z1 := z1.below hb2; replace x1 := x1.below hb2; replace x2 := x2.below hb2; obtain ⟨c0, c1, c2, c3⟩ := z1.cells; have u0 := z1.unfrozen 0; have u1 := z1.unfrozen 1; have u2 := z1.unfrozen 2; have u3 := z1.unfrozen 3; obtain ⟨d0, d1, d2, d3⟩ := x1.cells; obtain ⟨e0, e1, e2, e3⟩ := x2.cells; clear hb2)
  have z2 := z1.all (.slice none 0 0) z0
  have b2 : Below w.heap.size w (setH w2 (w.heap.size + 2) (.slice none 0 0) z0) := Below.setH' HBb.out (by omega) _ _
  obtain ⟨r0, r1, r2, r3⟩ := z2.cells
  refine bodyPost_ret (w := setH w2 (w.heap.size + 2) (.slice none 0 0) z0) (v := .tuple #[zeroH, .int .i64 1]) ?_ rfl ⟨rfl, b2⟩
  generalize setH w2 (w.heap.size + 2) (.slice none 0 0) z0 = wf at *
  simp only [z0] at r0 r1 r2 r3
  simp [results, Try.results17, go_sem, r0, r1, r2, r3]
set_option maxRecDepth 100000 in
set_option maxHeartbeats 2000000 in
theorem Merge_n (va vb : Value) (a b : P.Hv) (w : World) (ra : RowC w va a.l) (rb : RowC w vb b.l) (ia : HvI a) (ib : HvI b) (ha : P.Good a) (hb : P.Good b) (hk : a.k = b.k) (hn : 1000000000 < a.n + b.n) :
    Calls Try.prog 17 #[aggH va a, aggH vb b] w fun e w' => e = .returned (.tuple #[zeroH, .int .i64 2]) ∧ Below w.heap.size w w' := by
  obtain ⟨X1, X2, X3, hB⟩ := boxes3 va vb a b w
  have HB := hide hB
  have HX1 := hide X1
  have HX2 := hide X2
  have HX3 := hide X3
  have HKa := hide (fun wx (hb : Below w.heap.size w wx) => check_any va a wx (ra.below hb (Nat.le_refl _)) ia)
  have HKb := hide (fun wx (hb : Below w.heap.size w wx) => check_any vb b wx (rb.below hb (Nat.le_refl _)) ib)
  rw [P.chkH_ok ha] at HKa
  rw [P.chkH_ok hb] at HKb
  have hd : (a.k != b.k) = false := by simpa using hk
  have n0 := ha.n0
  have n1 := ha.n1
  have n2 := hb.n0
  have n3 := hb.n1
  have hd2 : decide (1000000000 < a.n + b.n) = true := by simpa using hn
  clear hk hn
  clear ra rb X1 X2 X3 hB
  go_enter Try.func17, Try.ntmps17
  go_upto_region 4 with (go_at_call 14; refine (HKa.out _ HB.out).mono ?_; rintro e w1 ⟨rfl, hb1⟩; have HBa := hide (Below.next HB.out hb1); have z1 := HX3.out.below hb1; have x1 := HX1.out.below hb1; have x2 := HX2.out.below hb1; obtain ⟨d0, d1, d2, d3⟩ := x2.cells; clear hb1)
  go_wp2_with (go_at_call 14; refine (HKb.out _ HBa.out).mono ?_; rintro e w2 ⟨rfl, hb2⟩; have HBb := hide (Below.next HBa.out hb2); replace z1 := z1.below hb2; replace x1 := x1.below hb2; replace x2 := x2.below hb2; obtain ⟨c0, c1, c2, c3⟩ := z1.cells; have u0 := z1.unfrozen 0; have u1 := z1.unfrozen 1; have u2 := z1.unfrozen 2; have u3 := z1.unfrozen 3; obtain ⟨d0, d1, d2, d3⟩ := x1.cells; obtain ⟨e0, e1, e2, e3⟩ := x2.cells; clear hb2)
  have z2 := z1.all (.slice none 0 0) z0
  have b2 : Below w.heap.size w (setH w2 (w.heap.size + 2) (.slice none 0 0) z0) := Below.setH' HBb.out (by omega) _ _
  obtain ⟨r0, r1, r2, r3⟩ := z2.cells
  refine bodyPost_ret (w := setH w2 (w.heap.size + 2) (.slice none 0 0) z0) (v := .tuple #[zeroH, .int .i64 2]) ?_ rfl ⟨rfl, b2⟩
  generalize setH w2 (w.heap.size + 2) (.slice none 0 0) z0 = wf at *
  simp only [z0] at r0 r1 r2 r3
  simp [results, Try.results17, go_sem, r0, r1, r2, r3]

theorem Merge_bad (va vb : Value) (a b : P.Hv) (w : World) (ra : RowC w va a.l) (rb : RowC w vb b.l) (ia : HvI a) (ib : HvI b) (E : Int) (hE : P.mgE a b = E) (h0 : E ≠ 0) :
    Calls Try.prog 17 #[aggH va a, aggH vb b] w fun e w' => e = .returned (.tuple #[zeroH, .int .i64 E]) ∧ Below w.heap.size w w' := by
  unfold P.mgE at hE
  by_cases ha : P.Good a
  · by_cases hb : P.Good b
    · rw [if_neg (fun h => h.elim (fun h => h ha) (fun h => h hb))] at hE
      by_cases hk : a.k = b.k
      · rw [if_neg (not_not_intro hk)] at hE
        by_cases hn : 1000000000 < a.n + b.n
        · rw [if_pos hn] at hE; subst hE
          exact Merge_n va vb a b w ra rb ia ib ha hb hk hn
        · rw [if_neg hn] at hE; exact absurd hE.symm h0
      · rw [if_pos hk] at hE; subst hE
        exact Merge_k va vb a b w ra rb ia ib ha hb hk
    · rw [if_pos (.inr hb)] at hE; subst hE
      exact Merge_b va vb a b w ra rb ia ib ha hb
  · rw [if_pos (.inl ha)] at hE; subst hE
    exact Merge_a va vb a b w ra rb ia ib ha
set_option maxRecDepth 100000 in
set_option maxHeartbeats 2000000 in
theorem Merge_ok (va vb : Value) (a b : P.Hv) (w : World) (ra : RowC w va a.l) (rb : RowC w vb b.l) (ia : HvI a) (ib : HvI b) (h : P.Two a b) :
    Calls Try.prog 17 #[aggH va a, aggH vb b] w fun e w' => ∃ v', e = .returned (.tuple #[aggH v' (P.uni a b), .int .i64 0]) ∧ OwnC w' w.heap.size v' (P.uni a b).l ∧ Below w.heap.size w w' := by
  obtain ⟨X1, X2, X3, hB⟩ := boxes3 va vb a b w
  have HB := hide hB
  have HX1 := hide X1
  have HX2 := hide X2
  have HX3 := hide X3
  have HKa := hide (fun wx (hb : Below w.heap.size w wx) => check_any va a wx (ra.below hb (Nat.le_refl _)) ia)
  have HKb := hide (fun wx (hb : Below w.heap.size w wx) => check_any vb b wx (rb.below hb (Nat.le_refl _)) ib)
  rw [P.chkH_ok h.ga] at HKa
  rw [P.chkH_ok h.gb] at HKb
  have HU := hide (fun wx (hb : Below w.heap.size w wx) => unite_any va vb a b wx h (ra.below hb (Nat.le_refl _)) (rb.below hb (Nat.le_refl _)))
  have hd : (a.k != b.k) = false := by simpa using h.k
  have n0 := h.ga.n0
  have n1 := h.ga.n1
  have n2 := h.gb.n0
  have n3 := h.gb.n1
  have hd2 : decide (1000000000 < a.n + b.n) = false := by have := h.n; simp; omega
  generalize P.uni a b = R at *
  obtain ⟨xa, ca, e1⟩ := ra.shp
  obtain ⟨xb, cb, e2⟩ := rb.shp
  rw [e1] at HKa HB HX1 HX2 HX3 HU ⊢
  rw [e2] at HKb HB HX1 HX2 HX3 HU ⊢
  clear ra rb X1 X2 X3 hB h e1 e2
  go_enter Try.func17, Try.ntmps17
  go_upto_region 4 with (go_at_call 14; refine (HKa.out _ HB.out).mono ?_; rintro e w1 ⟨rfl, hb1⟩; have HBa := hide (Below.next HB.out hb1); have z1 := HX3.out.below hb1; have x1 := HX1.out.below hb1; have x2 := HX2.out.below hb1; obtain ⟨d0, d1, d2, d3⟩ := x2.cells; clear hb1)
  go_wp2_with (first
    | (go_at_call 14; refine (HKb.out _ HBa.out).mono ?_; rintro e w2 ⟨rfl, hb2⟩; have HBb := hide (Below.next HBa.out hb2); replace z1 := z1.below hb2; replace x1 := x1.below hb2; replace x2 := x2.below hb2; obtain ⟨d0, d1, d2, d3⟩ := x1.cells; obtain ⟨e0, e1, e2, e3⟩ := x2.cells; clear hb2)
    | (go_at_call 27; go_must (refine (HU.out _ HBb.out).mono ?_); rintro e w3 ⟨v3, rfl, own3, hb3⟩; obtain ⟨a3, k3, hv3⟩ := own3.shp ctC_len; rw [hv3] at own3 ⊢; have z3 := z1.below hb3; obtain ⟨c0, c1, c2, c3⟩ := z3.cells; have u0 := z3.unfrozen 0; have u1 := z3.unfrozen 1; have u2 := z3.unfrozen 2; have u3 := z3.unfrozen 3; clear hv3))
  have hg := setH_grown w3 (w.heap.size + 2) (.slice a3 R.l.length k3) R
  have hz := z3.all (.slice a3 R.l.length k3) R
  have ho := own3.box z3 hg
  have hb := Below.setH' (Below.next HBb.out hb3) (g := w.heap.size + 2) (by omega) (.slice a3 R.l.length k3) R
  obtain ⟨r0, r1, r2, r3⟩ := hz.cells
  have hs1 := HBb.out.size
  refine bodyPost_ret (w := setH w3 (w.heap.size + 2) (.slice a3 R.l.length k3) R) (v := .tuple #[aggH (.slice a3 R.l.length k3) R, .int .i64 0]) ?_ rfl ⟨.slice a3 R.l.length k3, rfl, ho.base hs1, hb⟩
  generalize setH w3 (w.heap.size + 2) (.slice a3 R.l.length k3) R = wf at *
  simp [results, Try.results17, go_sem, r0, r1, r2, r3]
end Go.Proofs.Ytcaidfffmllfeaa
