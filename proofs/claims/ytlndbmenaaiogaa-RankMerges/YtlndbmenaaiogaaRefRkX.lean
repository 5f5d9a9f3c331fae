/- What the reference's RanksMerged answers. -/
import Derived.Test.YtlndbmenaaiogaaRefRkR
import Derived.Test.YtlndbmenaaiogaaRefRkF
import Derived.Test.YtlndbmenaaiogaaRankLa
namespace Go.Proofs.Ytlndbmenaaiogaa
open Go.RowKit
set_option linter.unusedVariables false
/-- How RanksMerged stands in memory. -/
structure MrAt (w : World) (a b : P.Rk) (tb lb : Value) (left : Int) (s : P.Rk) (wr : World) : Prop where
  box : ∃ tv lv, BoxR wr w.heap.size tv lv s ∧ RdR w wr tv lv s
  bb : BoxR wr (w.heap.size + 1) tb lb b
  res : BoxR wr (w.heap.size + 2) (.slice none 0 0) (.slice none 0 0) ⟨0, [], [], 0, 0⟩
  mg : P.MgR a b s left
  below : Below w.heap.size w wr
/-- A rank stored into its box. -/
theorem MrAt.store {w wr w6 : World} {a b s S : P.Rk} {tb lb tv lv t6 l6 : Value} {left left' : Int} (h : MrAt w a b tb lb left s wr) (hx : BoxR wr w.heap.size tv lv s) (hb6 : Below wr.heap.size wr w6) (hrd : RdR w w6 t6 l6 S) (hm : P.MgR a b S left') :
    MrAt w a b tb lb left' S (setR w6 w.heap.size t6 l6 S) ∧ BoxR (setR w6 w.heap.size t6 l6 S) w.heap.size t6 l6 S ∧ RdR w (setR w6 w.heap.size t6 l6 S) t6 l6 S := by
  have x6 := hx.below hb6
  have y1 := x6.all t6 l6 S
  have y2 : RdR w (setR w6 w.heap.size t6 l6 S) t6 l6 S := hrd.setR' x6
  exact ⟨⟨⟨_, _, y1, y2⟩, (h.bb.below hb6).grown (setR_grown _ _ _ _ _) (by simp), (h.res.below hb6).grown (setR_grown _ _ _ _ _) (by simp), hm, Below.setR' (Below.next h.below hb6) (Nat.le_refl _) _ _ _⟩, y1, y2⟩
set_option maxRecDepth 100000 in
set_option maxHeartbeats 4000000 in
theorem ranksMerged_any (ta la tb lb : Value) (a b : P.Rk) (w : World) (ha : RkV w ta la a) (hb : RkV w tb lb b) (hga : P.Good a) (hgb : P.Good b) (hk : a.k = b.k) :
    Calls Try.prog 17 #[aggR ta la a, aggR tb lb b] w (RdPost w w (P.mgU a b)) := by
  have HRb := hide (fun wx (hbx : Below w.heap.size w wx) => hb.below hbx (Nat.le_refl _))
  obtain ⟨tA, cA, rfl, ⟨_, _, _⟩, _⟩ := ha.tail
  obtain ⟨lA, dA, rfl, ⟨_, _⟩, _⟩ := ha.lv
  obtain ⟨tB, cB, rfl, ⟨htc1, htc2, _⟩, hcaseT⟩ := hb.tail
  obtain ⟨lB, dB, rfl, ⟨hlc1, hlc2⟩, hcaseL⟩ := hb.lv
  unfold maxLen at htc2 hlc2
  obtain ⟨hX1, hX2, hX3, hB, hsz⟩ := boxes3 w (.slice tA a.tail.length cA) (.slice lA a.lv.length dA) (.slice tB b.tail.length cB) (.slice lB b.lv.length dB) a b
  obtain ⟨hY1, hY2, hY3, hC, _⟩ := boxes3 w (.slice tA a.tail.length cA) (.slice lA a.lv.length dA) (.slice tB b.tail.length cB) (.slice lB b.lv.length dB) ⟨a.k, a.tail, a.lv, a.n, a.sl + b.sl⟩ b
  have hrda := (ha.rd.below hC (Nat.le_refl _)).same (s' := ⟨a.k, a.tail, a.lv, a.n, a.sl + b.sl⟩) rfl rfl
  simp only at hY1 hC hrda hY2 hY3
  obtain ⟨a0, a1, a2, a3, a4⟩ := hX1.cells
  obtain ⟨b0, b1, b2, b3, b4⟩ := hX2.cells
  have u4 := hX1.unfrozen 4
  have HXM := hide (show MrAt w a b (.slice tB b.tail.length cB) (.slice lB b.lv.length dB) b.n ⟨a.k, a.tail, a.lv, a.n, a.sl + b.sl⟩ _ from ⟨⟨_, _, hY1, hrda⟩, hY2, hY3, P.MgR.start hga hgb, hC⟩)
  have HK := hide hk
  have HGa := hide hga
  have HGb := hide hgb
  have hasl : 0 ≤ a.sl ∧ a.sl ≤ 1152921504606846976 := ⟨hga.1.sl, hga.2.2⟩
  have hbsl : 0 ≤ b.sl ∧ b.sl ≤ 1152921504606846976 := ⟨hgb.1.sl, hgb.2.2⟩
  have s1 : a.sl + b.sl ≤ 9223372036854775807 := by omega
  have s0 : 0 ≤ a.sl + b.sl := by omega
  obtain ⟨R, hR⟩ : ∃ R, R = P.mgU a b := ⟨_, rfl⟩
  rw [← hR]
  have HR := hide hR
  clear ha hb hX1 hX2 hX3 hB hk hga hgb hsz hasl hbsl hR hrda hY1 hY2 hY3 hC
  go_enter Try.func17, Try.ntmps17
  go_upto_region 2 with fail
  clear a0 a1 a2 a3 a4 b0 b1 b2 b3 b4 u4 s1 s0
  generalize (((w.alloc (.cells #[.int .i64 a.k, .slice tA a.tail.length cA, .slice lA a.lv.length dA, .int .i64 a.n, .int .i64 (a.sl + b.sl)] 25)).alloc (.cells #[.int .i64 b.k, .slice tB b.tail.length cB, .slice lB b.lv.length dB, .int .i64 b.n, .int .i64 b.sl] 25)).alloc (.cells #[.int .i64 0, .slice none 0 0, .slice none 0 0, .int .i64 0, .int .i64 0] 25)) = X at *
  obtain ⟨FIN, hFIN⟩ : ∃ F, F = P.casU ⟨a.k, a.tail, a.lv, a.n, a.sl + b.sl⟩ b.lv 0 := ⟨_, rfl⟩
  have HRF : Hid (R = b.tail.foldl P.adU FIN) := by have := HR.out; unfold P.mgU at this; rw [← hFIN] at this; exact this
  have HF := hide hFIN
  have hbn : b.n = ((2 ^ 0 * P.cnt (b.lv.drop 0) + b.tail.length : Nat) : Int) := by rw [HGb.out.1.n]; simp; omega
  have XM0 := HXM.out
  rw [hbn] at XM0
  have XM1 := hide XM0
  obtain ⟨b0, b1, b2, b3, b4⟩ := HXM.out.bb.cells
  clear hFIN hbn XM0 HXM HR
  go_wp2
  clear b0 b1 b2 b3 b4
  go_loopw [21, 5] (fun i byv wr => ∃ (j : Nat) (s : P.Rk) (z : Int), j ≤ b.lv.length ∧ i = .int .i64 j ∧ byv = .int .i64 z ∧ z = b.k * 2 ^ j ∧ P.casU s (b.lv.drop j) j = FIN ∧ MrAt w a b (.slice tB b.tail.length cB) (.slice lB b.lv.length dB) ((2 ^ j * P.cnt (b.lv.drop j) + b.tail.length : Nat) : Int) s wr) (fun i _ _ => b.lv.length - (intOf i).toNat)
  case atStart => exact ⟨0, _, b.k, by omega, rfl, rfl, by simp, HF.out.symm, XM1.out⟩
  case round =>
    clear XM1
    obtain ⟨j, s, z, hj, rfl, rfl, hz, hcs, hM⟩ := hrel
    have hbw := hM.below
    have hlv20 := HGb.out.2.1
    by_cases hlt : j < b.lv.length
    · rcases hcaseL with h | ⟨b', off, rfl, hbs, hcell⟩
      · rw [h] at hlt; simp at hlt
      have j0 : (0 : Int) ≤ (j : Int) := by omega
      have j1 : (j : Int) < (b.lv.length : Int) := by omega
      have hp := P.pow20 (show j ≤ 20 by omega)
      have hk64 := HGb.out.1.k64
      have hk2 := HGb.out.1.k2
      have hz1 : z ≤ 67108864 := by rw [hz]; exact Int.le_trans (Int.mul_le_mul hk64 hp.2 (by omega) (by omega)) (by decide)
      have hz0 : 0 ≤ z := by rw [hz]; exact Int.mul_nonneg (by omega) (by omega)
      have HZ2 : Hid (z * 2 = b.k * 2 ^ (j + 1)) := by show _ = _; rw [hz, Int.pow_succ, Int.mul_assoc]
      obtain ⟨l, hx⟩ : ∃ y, b.lv[j]? = some y := ⟨_, List.getElem?_eq_getElem hlt⟩
      obtain ⟨vj, g0, hrow⟩ := hcell j l hx
      have g1 := (hbw.cell (p := ⟨b', off + j, none⟩) hbs).trans g0
      obtain ⟨ar, cr, rfl, _, _⟩ := hrow.nil_of
      have HL := hide hx
      have HM := hide hM
      have HC := hide hcs
      have HZ := hide hz
      have HRow := hide hrow
      clear hcell g0 hrow hcs hM hbw hp hz
      by_cases hl : l = []
      · subst hl
        have hd0 : decide (0 < ([] : List Int).length) = false := rfl
        have hd1 : decide (0 < (([] : List Int).length : Int)) = false := rfl
        rw [List.length_nil] at g1
        go_wp2
        go_roundw
        case rel => exact ⟨j + 1, s, z * 2, by omega, by go_num, rfl, HZ2.out, by rw [← HC.out, P.cas_drop HL.out, if_pos rfl], ⟨HM.out.box, HM.out.bb, HM.out.res, HM.out.mg.none HL.out, HM.out.below⟩⟩
        case measure => simp [intOf]; omega
      · have hpos : 0 < l.length := List.length_pos_iff.2 hl
        have hd0 : decide (0 < l.length) = true := by simpa using hpos
        have HNe := hide hl
        obtain ⟨tv, lv, hx1, hrd⟩ := HM.out.box
        obtain ⟨at6, ct6, rfl⟩ := hrd.tail.shape
        obtain ⟨al6, cl6, rfl⟩ := hrd.lv.shape
        obtain ⟨e1, e2, e3, e4⟩ := HM.out.mg.bounds HGa.out HGb.out HK.out (by omega)
        have hmg1 := HM.out.mg.list HGb.out HK.out HL.out hl
        obtain ⟨d1, d2, d3, d4⟩ := hmg1.bounds HGa.out HGb.out HK.out (by omega)
        have hlvl := HGb.out.1.lv l (List.mem_of_getElem? HL.out)
        have hlk : (l.length : Int) = b.k := by rcases hlvl.2 with h | h <;> omega
        have hzz : ((l.length * 2 ^ j : Nat) : Int) = z := by rw [HZ.out, ← hlk]; push_cast; rfl
        have hca := P.caU_z (s := s) hzz
        rw [hca] at d2 hmg1 d3 d4
        simp only at d2 d3
        have hnn : 0 ≤ s.n := by rw [e4.n]; omega
        have n1 : s.n + z ≤ 9223372036854775807 := by omega
        have n0 : 0 ≤ s.n + z := by omega
        have HCr := hide (carried_any 22 w (.slice at6 s.tail.length ct6) (.slice al6 s.lv.length cl6) (.slice ar l.length cr) s l j wr (by omega) HM.out.below hrd (.inl HRow.out) (e4.carPre (t := s.tail) (n := s.n) hlvl.1 (by omega) (by omega) (by omega) (by omega)))
        obtain ⟨x0, x1, x2, x3, x4⟩ := hx1.cells
        have HX1 := hide hx1
        have HCa := hide hca
        have HMg1 := hide hmg1
        clear hrd hx1 hca hmg1 d1 d2 d3 d4 e1 e2 e3 e4 hlk hzz hlvl hl hnn
        go_upto_region 8 with (go_at_call 36; go_must (refine HCr.out.mono ?_); rintro e w6 ⟨lv6, rfl, hrd6, hb6⟩; obtain ⟨a7, c7, rfl⟩ := hrd6.lv.shape; have r7 := HX1.out.below hb6; obtain ⟨f0, f1, f2, f3, f4⟩ := r7.cells; have g0 := r7.unfrozen 0; have g2 := r7.unfrozen 1; have g3 := r7.unfrozen 2; have g4 := r7.unfrozen 3; have g5 := r7.unfrozen 4)
        have Y1 : BoxR (((((w6.setCell ⟨w.heap.size, 0, none⟩ (.int .i64 s.k)).setCell ⟨w.heap.size, 1, none⟩ (.slice at6 s.tail.length ct6)).setCell ⟨w.heap.size, 2, none⟩ (.slice a7 (P.car s.lv l j).1.length c7)).setCell ⟨w.heap.size, 3, none⟩ (.int .i64 s.n)).setCell ⟨w.heap.size, 4, none⟩ (.int .i64 (s.sl + (P.car s.lv l j).2))) w.heap.size (.slice at6 s.tail.length ct6) (.slice a7 (P.car s.lv l j).1.length c7) ⟨s.k, s.tail, (P.car s.lv l j).1, s.n, s.sl + (P.car s.lv l j).2⟩ := r7.all (.slice at6 s.tail.length ct6) (.slice a7 (P.car s.lv l j).1.length c7) ⟨s.k, s.tail, (P.car s.lv l j).1, s.n, s.sl + (P.car s.lv l j).2⟩
        have Y2 : RdR w (((((w6.setCell ⟨w.heap.size, 0, none⟩ (.int .i64 s.k)).setCell ⟨w.heap.size, 1, none⟩ (.slice at6 s.tail.length ct6)).setCell ⟨w.heap.size, 2, none⟩ (.slice a7 (P.car s.lv l j).1.length c7)).setCell ⟨w.heap.size, 3, none⟩ (.int .i64 s.n)).setCell ⟨w.heap.size, 4, none⟩ (.int .i64 (s.sl + (P.car s.lv l j).2))) (.slice at6 s.tail.length ct6) (.slice a7 (P.car s.lv l j).1.length c7) ⟨s.k, s.tail, (P.car s.lv l j).1, s.n, s.sl + (P.car s.lv l j).2⟩ := hrd6.setR' (tb' := (.slice at6 s.tail.length ct6)) (lb' := (.slice a7 (P.car s.lv l j).1.length c7)) (s' := ⟨s.k, s.tail, (P.car s.lv l j).1, s.n, s.sl + (P.car s.lv l j).2⟩) r7
        have Y3 : BoxR (((((w6.setCell ⟨w.heap.size, 0, none⟩ (.int .i64 s.k)).setCell ⟨w.heap.size, 1, none⟩ (.slice at6 s.tail.length ct6)).setCell ⟨w.heap.size, 2, none⟩ (.slice a7 (P.car s.lv l j).1.length c7)).setCell ⟨w.heap.size, 3, none⟩ (.int .i64 s.n)).setCell ⟨w.heap.size, 4, none⟩ (.int .i64 (s.sl + (P.car s.lv l j).2))) (w.heap.size + 1) (.slice tB b.tail.length cB) (.slice (some ⟨b', off, none⟩) b.lv.length dB) b := (HM.out.bb.below hb6).grown (setR_grown w6 w.heap.size (.slice at6 s.tail.length ct6) (.slice a7 (P.car s.lv l j).1.length c7) ⟨s.k, s.tail, (P.car s.lv l j).1, s.n, s.sl + (P.car s.lv l j).2⟩) (by simp)
        have Y4 : BoxR (((((w6.setCell ⟨w.heap.size, 0, none⟩ (.int .i64 s.k)).setCell ⟨w.heap.size, 1, none⟩ (.slice at6 s.tail.length ct6)).setCell ⟨w.heap.size, 2, none⟩ (.slice a7 (P.car s.lv l j).1.length c7)).setCell ⟨w.heap.size, 3, none⟩ (.int .i64 s.n)).setCell ⟨w.heap.size, 4, none⟩ (.int .i64 (s.sl + (P.car s.lv l j).2))) (w.heap.size + 2) (.slice none 0 0) (.slice none 0 0) ⟨0, [], [], 0, 0⟩ := (HM.out.res.below hb6).grown (setR_grown w6 w.heap.size (.slice at6 s.tail.length ct6) (.slice a7 (P.car s.lv l j).1.length c7) ⟨s.k, s.tail, (P.car s.lv l j).1, s.n, s.sl + (P.car s.lv l j).2⟩) (by simp)
        have Y5 : Below w.heap.size w (((((w6.setCell ⟨w.heap.size, 0, none⟩ (.int .i64 s.k)).setCell ⟨w.heap.size, 1, none⟩ (.slice at6 s.tail.length ct6)).setCell ⟨w.heap.size, 2, none⟩ (.slice a7 (P.car s.lv l j).1.length c7)).setCell ⟨w.heap.size, 3, none⟩ (.int .i64 s.n)).setCell ⟨w.heap.size, 4, none⟩ (.int .i64 (s.sl + (P.car s.lv l j).2))) := Below.setR' (Below.next HM.out.below hb6) (Nat.le_refl _) (.slice at6 s.tail.length ct6) (.slice a7 (P.car s.lv l j).1.length c7) ⟨s.k, s.tail, (P.car s.lv l j).1, s.n, s.sl + (P.car s.lv l j).2⟩
        generalize (((((w6.setCell ⟨w.heap.size, 0, none⟩ (.int .i64 s.k)).setCell ⟨w.heap.size, 1, none⟩ (.slice at6 s.tail.length ct6)).setCell ⟨w.heap.size, 2, none⟩ (.slice a7 (P.car s.lv l j).1.length c7)).setCell ⟨w.heap.size, 3, none⟩ (.int .i64 s.n)).setCell ⟨w.heap.size, 4, none⟩ (.int .i64 (s.sl + (P.car s.lv l j).2))) = Y at *
        obtain ⟨y0, y1, y2, y3, y4⟩ := Y1.cells
        have y5 := Y1.unfrozen 3
        simp only at y3
        have HY1 := hide Y1
        have HY2 := hide Y2
        have HY3 := hide Y3
        have HY4 := hide Y4
        have HY5 := hide Y5
        clear r7 f0 f1 f2 f3 f4 g0 g2 g3 g4 g5 hrd6 hb6 Y1 Y2 Y3 Y4 Y5 x0 x1 x2 x3 x4 HX1 HCr HM
        go_wp2
        go_roundw
        case rel => exact ⟨j + 1, ⟨s.k, s.tail, (P.car s.lv l j).1, s.n + z, s.sl + (P.car s.lv l j).2⟩, z * 2, by omega, by go_num, rfl, HZ2.out, by rw [← HC.out, P.cas_drop HL.out, if_neg HNe.out, HCa.out], ⟨⟨_, _, HY1.out.num (s.n + z), (HY2.out.box HY1.out 3 _).same rfl rfl⟩, HY3.out.grown (setCell_grown _ w.heap.size 3 _) (by simp), HY4.out.grown (setCell_grown _ w.heap.size 3 _) (by simp), HMg1.out, HY5.out.setCell (Nat.le_refl _) _⟩⟩
        case measure => simp [intOf]; omega
    · have hd : decide ((j : Int) < (b.lv.length : Int)) = false := by simp; omega
      have hdn : decide (j < b.lv.length) = false := by simp; omega
      obtain rfl : j = b.lv.length := by omega
      rw [List.drop_length] at hcs hM
      have hR0 : (b.tail.drop 0).foldl P.adU s = R := by rw [HRF.out, ← hcs]; rfl
      have HR0 := hide hR0
      have hM0 := hM
      rw [show ((2 ^ b.lv.length * P.cnt [] + b.tail.length : Nat) : Int) = ((b.tail.length - 0 : Nat) : Int) by simp [P.cnt]] at hM0
      have HM0 := hide hM0
      obtain ⟨p0, p1, p2, p3, p4⟩ := hM.bb.cells
      clear hM hM0 hR0 hcs hbw HF HRF hz
      go_wp2
      clear p0 p1 p2 p3 p4
      go_loopw [44] (fun i wr => ∃ (j : Nat) (s : P.Rk), j ≤ b.tail.length ∧ i = .int .i64 j ∧ (b.tail.drop j).foldl P.adU s = R ∧ MrAt w a b (.slice tB b.tail.length cB) (.slice lB b.lv.length dB) ((b.tail.length - j : Nat) : Int) s wr) (fun i _ => b.tail.length - (intOf i).toNat)
      case atStart => exact ⟨0, _, by omega, rfl, HR0.out, HM0.out⟩
      case round =>
        clear HR0 HM0
        obtain ⟨j, s, hj, rfl, hcs, hM⟩ := hrel
        have hbw := hM.below
        obtain ⟨tv, lv, hx1, hrd⟩ := hM.box
        obtain ⟨at6, ct6, rfl⟩ := hrd.tail.shape
        obtain ⟨al6, cl6, rfl⟩ := hrd.lv.shape
        by_cases hlt : j < b.tail.length
        · rcases hcaseT with h | ⟨b', off, rfl, hbs, hcell⟩
          · rw [h] at hlt; simp at hlt
          have j0 : (0 : Int) ≤ (j : Int) := by omega
          have j1 : (j : Int) < (b.tail.length : Int) := by omega
          have g1 := (hbw.cell (p := ⟨b', off + j, none⟩) hbs).trans (hcell j hlt)
          have hmg1 := hM.mg.ad (b.tail.getD j 0)
          obtain ⟨e1, e2, e3, e4⟩ := hM.mg.bounds HGa.out HGb.out HK.out (by omega)
          obtain ⟨d1, d2, d3, d4⟩ := hmg1.bounds HGa.out HGb.out HK.out (by omega)
          have q1 : (((b.tail.length - j : Nat) : Int) - 1) = ((b.tail.length - (j + 1) : Nat) : Int) := by omega
          rw [q1] at hmg1
          have HA1 := hide (rankedRef_any w _ _ s (b.tail.getD j 0) wr hbw hrd e4 (by omega) (by omega) (by omega))
          have HM := hide hM
          have HMG1 := hide hmg1
          have HDr := hide (P.ads_drop (s := s) hlt)
          have HC := hide hcs
          have HX1 := hide hx1
          obtain ⟨x0, x1, x2, x3, x4⟩ := hx1.cells
          generalize b.tail.getD j 0 = v at *
          generalize P.adU s v = S at *
          clear hM hcs hcell hbw hx1 hrd e1 e2 e3 e4 d1 d2 d3 d4 hmg1 q1
          go_wp2_with (go_at_call 15; go_must (refine HA1.out.mono ?_); rintro e w6 ⟨tv6, lv6, rfl, hrd6, hb6⟩; obtain ⟨ax, cx, rfl⟩ := hrd6.tail.shape; obtain ⟨a7, c7, rfl⟩ := hrd6.lv.shape; have r7 := HX1.out.below hb6; obtain ⟨f0, f1, f2, f3, f4⟩ := r7.cells; have g0 := r7.unfrozen 0; have g2 := r7.unfrozen 1; have g3 := r7.unfrozen 2; have g4 := r7.unfrozen 3; have g5 := r7.unfrozen 4)
          go_roundw
          case rel => exact ⟨j + 1, S, by omega, by go_num, by rw [← HC.out, HDr.out], (HM.out.store HX1.out hb6 hrd6 HMG1.out).1⟩
          case measure => simp [intOf]; omega
        · have hd : decide ((j : Int) < (b.tail.length : Int)) = false := by simp; omega
          have hdn : decide (j < b.tail.length) = false := by simp; omega
          obtain rfl : j = b.tail.length := by omega
          rw [List.drop_length] at hcs
          obtain rfl : s = R := hcs
          obtain ⟨x0, x1, x2, x3, x4⟩ := hx1.cells
          have r7 := hM.res
          obtain ⟨f0, f1, f2, f3, f4⟩ := r7.cells
          have g0 := r7.unfrozen 0
          have g1 := r7.unfrozen 1
          have g2 := r7.unfrozen 2
          have g3 := r7.unfrozen 3
          have g4 := r7.unfrozen 4
          have HRd := hide hrd
          have HBw := hide hbw
          have HR7 := hide r7
          clear hM hrd hbw hx1 r7
          go_wp2
          obtain ⟨r0, r1, r2, r3, r4⟩ := (HR7.out.all (.slice at6 s.tail.length ct6) (.slice al6 s.lv.length cl6) s).cells
          refine bodyPost_ret (w := setR wr (w.heap.size + 2) (.slice at6 s.tail.length ct6) (.slice al6 s.lv.length cl6) s) (v := aggR (.slice at6 s.tail.length ct6) (.slice al6 s.lv.length cl6) s) ?_ rfl ⟨_, _, rfl, HRd.out.setR' HR7.out, Below.setR' HBw.out (by omega) _ _ _⟩
          generalize setR wr (w.heap.size + 2) (.slice at6 s.tail.length ct6) (.slice al6 s.lv.length cl6) s = wf at *
          simp [results, Try.results17, go_sem, r0, r1, r2, r3, r4]
end Go.Proofs.Ytlndbmenaaiogaa
