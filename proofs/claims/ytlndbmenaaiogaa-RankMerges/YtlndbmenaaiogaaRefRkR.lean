/- What the reference's Ranked answers: a number more. -/
import Derived.Test.YtlndbmenaaiogaaRefRkC
namespace Go.Proofs.Ytlndbmenaaiogaa
open Go.RowKit
set_option linter.unusedVariables false
/-- What Ranked answers. -/
def RdPost (w0 w : World) (S : P.Rk) (e : Ending) (w' : World) : Prop := ∃ tv' lv', e = .returned (aggR tv' lv' S) ∧ RdR w0 w' tv' lv' S ∧ Below w.heap.size w w'
theorem P.Mid.carPre {s : P.Rk} (h : P.Mid s) {l : List Int} {j : Nat} (hl : P.Inc l) (hl64 : l.length ≤ 64) (h5 : s.lv.length ≤ 22) (hj : j ≤ 22) {t : List Int} {n : Int} (h2 : s.sl + (P.car s.lv l j).2 ≤ 4611686018427387904) : CarPre ⟨s.k, t, s.lv, n, s.sl⟩ l j :=
  ⟨fun m hm => ⟨(h.lv m hm).1, by have := (h.lv m hm).2; have := h.k64; omega⟩, ⟨hl, hl64⟩, h5, hj, h.sl, h2⟩
set_option maxHeartbeats 2000000 in
set_option maxRecDepth 100000 in
theorem rankedRef_any (w0 : World) (tv lv : Value) (s : P.Rk) (v : Int) (w : World) (hb : Below w0.heap.size w0 w) (hr : RdR w0 w tv lv s) (hm : P.Mid s)
    (h1 : s.n + 1 ≤ 4611686018427387904) (h2 : (P.adU s v).sl ≤ 4611686018427387904) (h5 : s.lv.length ≤ 22) :
    Calls Try.prog 15 #[aggR tv lv s, .int .i64 v] w (RdPost w0 w (P.adU s v)) := by
  have ht64 : s.tail.length ≤ 64 := by have := hm.room; have := hm.k64; omega
  have ht64' : (s.tail.length : Int) + 1 ≤ 64 := by have := hm.room; have := hm.k64; omega
  have hn0 : 0 ≤ s.n := by rw [hm.n]; omega
  have hw0 := hb.size
  obtain ⟨at', ct, rfl⟩ := hr.tail.shape
  obtain ⟨al, cl, rfl⟩ := hr.lv.shape
  have hB : Below w.heap.size w ((w.alloc (.cells #[.int .i64 s.k, .slice at' s.tail.length ct, .slice al s.lv.length cl, .int .i64 s.n, .int .i64 s.sl] 25)).alloc (.cells #[.int .i64 0, .slice none 0 0, .slice none 0 0, .int .i64 0, .int .i64 0] 25)) := ((Below.refl _ w).alloc (Nat.le_refl _) _).alloc (by simp) _
  have hX1 : BoxR ((w.alloc (.cells #[.int .i64 s.k, .slice at' s.tail.length ct, .slice al s.lv.length cl, .int .i64 s.n, .int .i64 s.sl] 25)).alloc (.cells #[.int .i64 0, .slice none 0 0, .slice none 0 0, .int .i64 0, .int .i64 0] 25)) w.heap.size (.slice at' s.tail.length ct) (.slice al s.lv.length cl) s :=
    BoxR.below (BoxR.new w _ _ s) ((Below.refl _ _).alloc (Nat.le_refl _) _)
  have hX2 := zero_box w (.cells #[.int .i64 s.k, .slice at' s.tail.length ct, .slice al s.lv.length cl, .int .i64 s.n, .int .i64 s.sl] 25)
  have hb0 : Below w0.heap.size w0 ((w.alloc (.cells #[.int .i64 s.k, .slice at' s.tail.length ct, .slice al s.lv.length cl, .int .i64 s.n, .int .i64 s.sl] 25)).alloc (.cells #[.int .i64 0, .slice none 0 0, .slice none 0 0, .int .i64 0, .int .i64 0] 25)) := hb.trans (hB.mono hw0)
  have hrw := hr.below hB (Nat.le_refl _)
  have HI := hide (inserted_any _ s.tail v _ (hrw.tail.row hb0) hm.inc (by omega))
  have hsz2 := hB.size
  obtain ⟨b0, b1, b2, b3, b4⟩ := hX1.cells
  have had : P.adU s v = if ((P.ins v s.tail).length : Int) = s.k then ⟨s.k, [], (P.up s.lv (P.ins v s.tail)).1, s.n + 1, s.sl + (P.up s.lv (P.ins v s.tail)).2⟩ else ⟨s.k, P.ins v s.tail, s.lv, s.n + 1, s.sl⟩ := rfl
  have hil := P.ins_len v s.tail
  have hii := P.ins_inc v s.tail
  generalize P.adU s v = R at *
  generalize P.ins v s.tail = t' at *
  have HR := hide had
  have ht'64 : t'.length ≤ 64 := by omega
  have HM := hide hm
  have HX1 := hide hX1
  have HX2 := hide hX2
  have HRl := hide hrw.lv
  have HBw := hide hB
  have HB0 := hide hb
  have HII := hide hii
  clear had hm hX1 hX2 hrw hr hb hil hii hb0 hB
  go_enter Try.func15, Try.ntmps15
  go_upto_region 3 with (go_at_call 35; go_must (refine HI.out.mono ?_); rintro e w1 ⟨v1, rfl, own1, hb1⟩; obtain ⟨a1, c1, rfl⟩ := OwnK.shape own1; have y1 := HX1.out.below hb1; obtain ⟨d0, d1, d2, d3, d4⟩ := y1.cells; have u1 := y1.unfrozen 1; have u3 := y1.unfrozen 3; have y2 := HX2.out.below hb1)
  have X1 : BoxR ((w1.setCell ⟨w.heap.size, 1, none⟩ (.slice a1 t'.length c1)).setCell ⟨w.heap.size, 3, none⟩ (.int .i64 (s.n + 1))) w.heap.size (.slice a1 t'.length c1) (.slice al s.lv.length cl) ⟨s.k, t', s.lv, s.n + 1, s.sl⟩ := (y1.tail _ t').num (s.n + 1)
  have X2 : BoxR ((w1.setCell ⟨w.heap.size, 1, none⟩ (.slice a1 t'.length c1)).setCell ⟨w.heap.size, 3, none⟩ (.int .i64 (s.n + 1))) (w.heap.size + 1) (.slice none 0 0) (.slice none 0 0) ⟨0, [], [], 0, 0⟩ := (y2.grown (setCell_grown _ w.heap.size 1 _) (by simp)).grown (setCell_grown _ w.heap.size 3 _) (by simp)
  have hw1 := hb1.size
  have X3 : RdI w0 ((w1.setCell ⟨w.heap.size, 1, none⟩ (.slice a1 t'.length c1)).setCell ⟨w.heap.size, 3, none⟩ (.int .i64 (s.n + 1))) (.slice a1 t'.length c1) t' :=
    (RdI.keepT (.inr (OwnK.base own1 (by omega))) (setCell_grown _ w.heap.size 1 _) y1 (by decide)).keepT (setCell_grown _ w.heap.size 3 _) (y1.tail (.slice a1 t'.length c1) t') (by decide)
  have X4 : RdL w0 ((w1.setCell ⟨w.heap.size, 1, none⟩ (.slice a1 t'.length c1)).setCell ⟨w.heap.size, 3, none⟩ (.int .i64 (s.n + 1))) (.slice al s.lv.length cl) s.lv :=
    ((HRl.out.below hb1 (Nat.le_refl _)).keepT (setCell_grown _ w.heap.size 1 _) y1 (by decide) (by decide)).keepT (setCell_grown _ w.heap.size 3 _) (y1.tail (.slice a1 t'.length c1) t') (by decide) (by decide)
  have X5 : Below w.heap.size w ((w1.setCell ⟨w.heap.size, 1, none⟩ (.slice a1 t'.length c1)).setCell ⟨w.heap.size, 3, none⟩ (.int .i64 (s.n + 1))) := ((Below.next HBw.out hb1).setCell (Nat.le_refl _) _).setCell (Nat.le_refl _) _
  clear y1 d0 d1 d2 d3 d4 u1 u3 y2 own1 hb1 b0 b1 b2 b3 b4 HI HX1 HX2 HRl HBw hsz2 hw1
  generalize ((w1.setCell ⟨w.heap.size, 1, none⟩ (.slice a1 t'.length c1)).setCell ⟨w.heap.size, 3, none⟩ (.int .i64 (s.n + 1))) = X at *
  obtain ⟨x0, x1, x2, x3, x4⟩ := X1.cells
  have HX1 := hide X1
  have HX2 := hide X2
  have HX3 := hide X3
  have HX4 := hide X4
  have HX5 := hide X5
  clear X1 X2 X3 X4 X5
  by_cases hk : (t'.length : Int) = s.k
  · have hkb : ((t'.length : Int) == s.k) = true := by rw [beq_iff_eq]; exact hk
    have HRk := HR.out
    rw [if_pos hk] at HRk
    have HRR := hide HRk
    rw [HRk] at h2
    clear HRk HR hk
    have u1 := HX1.out.unfrozen 1
    go_upto_region 6 with fail
    have Y1 : BoxR (X.setCell ⟨w.heap.size, 1, none⟩ (.slice none 0 0)) w.heap.size (.slice none 0 0) (.slice al s.lv.length cl) ⟨s.k, [], s.lv, s.n + 1, s.sl⟩ := HX1.out.tail _ []
    have Y2 : BoxR (X.setCell ⟨w.heap.size, 1, none⟩ (.slice none 0 0)) (w.heap.size + 1) (.slice none 0 0) (.slice none 0 0) ⟨0, [], [], 0, 0⟩ := HX2.out.grown (setCell_grown _ w.heap.size 1 _) (by simp)
    have Y3 : RdI w0 (X.setCell ⟨w.heap.size, 1, none⟩ (.slice none 0 0)) (.slice a1 t'.length c1) t' := HX3.out.keepT (setCell_grown _ w.heap.size 1 _) HX1.out (by decide)
    have Y4 : RdL w0 (X.setCell ⟨w.heap.size, 1, none⟩ (.slice none 0 0)) (.slice al s.lv.length cl) s.lv := HX4.out.keepT (setCell_grown _ w.heap.size 1 _) HX1.out (by decide) (by decide)
    have Y5 : Below w.heap.size w (X.setCell ⟨w.heap.size, 1, none⟩ (.slice none 0 0)) := HX5.out.setCell (Nat.le_refl _) _
    have HC := hide (carried_any 22 w0 (.slice none 0 0) (.slice al s.lv.length cl) (.slice a1 t'.length c1) ⟨s.k, [], s.lv, s.n + 1, s.sl⟩ t' 0 _ (by simp only; omega) (HB0.out.trans (Y5.mono hw0)) ⟨RdI.nil _ _, Y4⟩ Y3 (HM.out.carPre HII.out ht'64 h5 (by omega) h2))
    obtain ⟨z0, z1, z2, z3, z4⟩ := Y1.cells
    have HY2 := hide Y2
    have HY5 := hide Y5
    clear Y1 Y2 Y3 Y4 Y5 x0 x1 x2 x3 x4 u1 HX1 HX2 HX3 HX4 HX5 h2
    generalize X.setCell ⟨w.heap.size, 1, none⟩ (.slice none 0 0) = Y at *
    simp only at z0 z3 z4
    have HRe : Hid (R = ⟨s.k, [], (P.car s.lv t' 0).1, s.n + 1, s.sl + (P.car s.lv t' 0).2⟩) := HRR.out
    rw [← HRe.out] at HC
    go_wp2_with (go_at_call 36; go_must (refine HC.out.mono ?_); rintro e w7 ⟨lv7, rfl, hrd7, hb7⟩; obtain ⟨a7, c7, rfl⟩ := hrd7.lv.shape; have r7 := HY2.out.below hb7; obtain ⟨f0, f1, f2, f3, f4⟩ := r7.cells; have g0 := r7.unfrozen 0; have g1 := r7.unfrozen 1; have g2 := r7.unfrozen 2; have g3 := r7.unfrozen 3; have g4 := r7.unfrozen 4)
    obtain ⟨r0, r1, r2, r3, r4⟩ := (r7.all (.slice none 0 0) (.slice a7 R.lv.length c7) R).cells
    refine bodyPost_ret (w := setR w7 (w.heap.size + 1) (.slice none 0 0) (.slice a7 R.lv.length c7) R) (v := aggR (.slice none 0 0) (.slice a7 R.lv.length c7) R) ?_ rfl ⟨_, _, rfl, hrd7.setR' r7, Below.setR' (Below.next HY5.out hb7) (by omega) _ _ _⟩
    generalize setR w7 (w.heap.size + 1) (.slice none 0 0) (.slice a7 R.lv.length c7) R = wf at *
    simp [results, Try.results15, go_sem, r0, r1, r2, r3, r4]
  · have hkb : ((t'.length : Int) == s.k) = false := by rw [beq_eq_false_iff_ne]; exact hk
    have HRk := HR.out
    rw [if_neg hk] at HRk
    have HRR := hide HRk
    clear HRk HR hk
    obtain ⟨f0, f1, f2, f3, f4⟩ := HX2.out.cells
    have g0 := HX2.out.unfrozen 0
    have g1 := HX2.out.unfrozen 1
    have g2 := HX2.out.unfrozen 2
    have g3 := HX2.out.unfrozen 3
    have g4 := HX2.out.unfrozen 4
    go_wp2
    obtain ⟨r0, r1, r2, r3, r4⟩ := (HX2.out.all (.slice a1 t'.length c1) (.slice al s.lv.length cl) ⟨s.k, t', s.lv, s.n + 1, s.sl⟩).cells
    refine bodyPost_ret (w := setR X (w.heap.size + 1) (.slice a1 t'.length c1) (.slice al s.lv.length cl) ⟨s.k, t', s.lv, s.n + 1, s.sl⟩) (v := aggR (.slice a1 t'.length c1) (.slice al s.lv.length cl) ⟨s.k, t', s.lv, s.n + 1, s.sl⟩) ?_ rfl ⟨_, _, by rw [HRR.out], by rw [HRR.out]; exact RdR.setR' ⟨HX3.out, HX4.out⟩ HX2.out, Below.setR' HX5.out (by omega) _ _ _⟩
    generalize setR X (w.heap.size + 1) (.slice a1 t'.length c1) (.slice al s.lv.length cl) ⟨s.k, t', s.lv, s.n + 1, s.sl⟩ = wf at *
    simp only at r0 r3 r4
    simp [results, Try.results15, go_sem, r0, r1, r2, r3, r4]
end Go.Proofs.Ytlndbmenaaiogaa
