/- What Merge answers of two that are sound. -/
import Derived.Test.YtlndbmenaaiogaaRankL
namespace Go.Proofs.Ytlndbmenaaiogaa
open Go.RowKit
set_option linter.unusedVariables false
namespace P
theorem MgR.list {a b s : Rk} {j T : Nat} {l : List Int} (h : MgR a b s ((2 ^ j * cnt (b.lv.drop j) + T : Nat) : Int)) (hb : Good b) (hk : a.k = b.k) (hl : b.lv[j]? = some l) (hne : l ≠ []) :
    MgR a b (caU s l j) ((2 ^ (j + 1) * cnt (b.lv.drop (j + 1)) + T : Nat) : Int) := by
  have h1 := hb.1.lv l (List.mem_of_getElem? hl)
  have h2 : l.length ≠ 0 := fun e => hne (List.length_eq_zero_iff.1 e)
  have h3 := hb.1.k2
  have h4 := h.ca l j h1.1 (by rw [h.k, hk]; rcases h1.2 with h5 | h5 <;> omega)
  have h5 := cnt_drop hl
  have e : (((2 ^ j * cnt (b.lv.drop j) + T : Nat) : Int) - 2 ^ j * l.length) = ((2 ^ (j + 1) * cnt (b.lv.drop (j + 1)) + T : Nat) : Int) := by
    have h6 : ((2 : Int) ^ j * l.length) = ((2 ^ j * l.length : Nat) : Int) := by push_cast; rfl
    rw [h6]
    omega
  rw [e] at h4
  exact h4
theorem MgR.none {a b s : Rk} {j T : Nat} (h : MgR a b s ((2 ^ j * cnt (b.lv.drop j) + T : Nat) : Int)) (hl : b.lv[j]? = some []) : MgR a b s ((2 ^ (j + 1) * cnt (b.lv.drop (j + 1)) + T : Nat) : Int) := by
  have h5 := cnt_drop hl
  simp only [List.length_nil, Nat.mul_zero, Nat.zero_add] at h5
  rw [h5] at h
  exact h
theorem caU_z {s : Rk} {l : List Int} {j : Nat} {z : Int} (hz : ((l.length * 2 ^ j : Nat) : Int) = z) : caU s l j = ⟨s.k, s.tail, (car s.lv l j).1, s.n + z, s.sl + (car s.lv l j).2⟩ := by
  unfold caU
  have : ((l.length : Int) * 2 ^ j) = ((l.length * 2 ^ j : Nat) : Int) := by push_cast; rfl
  rw [this, hz]
end P
set_option maxRecDepth 100000 in
set_option maxHeartbeats 2000000 in
theorem Merge_ok (ta la tb lb : Value) (a b : P.Rk) (w : World) (ha : RkV w ta la a) (hb : RkV w tb lb b) (hga : P.Good a) (hgb : P.Good b) (hk : a.k = b.k) :
    Calls Try.prog 16 #[aggR ta la a, aggR tb lb b] w (RkPost w (P.mgU a b)) := by
  have HKa := hide (fun wx (hbx : Below w.heap.size w wx) => check_any ta la a wx (ha.below hbx (Nat.le_refl _)))
  have HKb := hide (fun wx (hbx : Below w.heap.size w wx) => check_any tb lb b wx (hb.below hbx (Nat.le_refl _)))
  have HRb := hide (fun wx (hbx : Below w.heap.size w wx) => hb.below hbx (Nat.le_refl _))
  rw [P.chkR_ok hga] at HKa
  rw [P.chkR_ok hgb] at HKb
  obtain ⟨tB, cB, rfl, ⟨htc1, htc2, _⟩, _⟩ := hb.tail
  obtain ⟨lB, dB, rfl, ⟨hlc1, hlc2⟩, _⟩ := hb.lv
  unfold maxLen at htc2 hlc2
  have HOw := hide (fun wx (hbx : Below w.heap.size w wx) => own_any ta la a wx (ha.below hbx (Nat.le_refl _)) hga)
  obtain ⟨hX1, hX2, hX3, hB, hsz⟩ := boxes3 w ta la (.slice tB b.tail.length cB) (.slice lB b.lv.length dB) a b
  have HX1 := hide hX1
  have HX2 := hide hX2
  have HX3 := hide hX3
  have HB := hide hB
  have hsz0 : w.heap.size + 3 ≤ (((w.alloc (.cells #[.int .i64 a.k, ta, la, .int .i64 a.n, .int .i64 a.sl] 25)).alloc (.cells #[.int .i64 b.k, .slice tB b.tail.length cB, .slice lB b.lv.length dB, .int .i64 b.n, .int .i64 b.sl] 25)).alloc (.cells #[.int .i64 0, .slice none 0 0, .slice none 0 0, .int .i64 0, .int .i64 0] 25)).heap.size := by omega
  have HS := hide hsz0
  obtain ⟨a0, a1, a2, a3, a4⟩ := hX1.cells
  obtain ⟨b0, b1, b2, b3, b4⟩ := hX2.cells
  have hkb : (a.k != b.k) = false := by rw [bne_eq_false_iff_eq]; exact hk
  have HMG := hide (P.MgR.start hga hgb)
  have HK := hide hk
  have HGa := hide hga
  have HGb := hide hgb
  have hasl : 0 ≤ a.sl ∧ a.sl ≤ 1152921504606846976 := ⟨hga.1.sl, hga.2.2⟩
  have hbsl : 0 ≤ b.sl ∧ b.sl ≤ 1152921504606846976 := ⟨hgb.1.sl, hgb.2.2⟩
  have hwr : IntKind.i64.wrap (a.sl + b.sl) = a.sl + b.sl := by rw [IntKind.wrap_i64]; omega
  obtain ⟨R, hR⟩ : ∃ R, R = P.mgU a b := ⟨_, rfl⟩
  rw [← hR]
  have HR := hide hR
  clear ha hb hX1 hX2 hX3 hB hk hga hgb hsz hsz0 hasl hbsl hR
  go_enter Try.func16, Try.ntmps16
  go_wp2_with fail
  refine (HKa.out _ HB.out).mono ?_
  rintro e w1 ⟨rfl, hb1⟩
  have y1 := HX1.out.below hb1
  have y2 := HX2.out.below hb1
  have y3 := HX3.out.below hb1
  have HS1 := hide (Nat.le_trans HS.out hb1.size)
  have HB1 := hide (Below.next HB.out hb1)
  obtain ⟨p0, p1, p2, p3, p4⟩ := y1.cells
  obtain ⟨q0, q1, q2, q3, q4⟩ := y2.cells
  clear a0 a1 a2 a3 a4 b0 b1 b2 b3 b4 hb1 HX1 HX2 HX3 HB HS
  go_wp2_with fail
  refine (HKb.out _ HB1.out).mono ?_
  rintro e w2 ⟨rfl, hb2⟩
  have z1 := y1.below hb2
  have z2 := y2.below hb2
  have z3 := y3.below hb2
  have HS2 := hide (Nat.le_trans HS1.out hb2.size)
  have HB2 := hide (Below.next HB1.out hb2)
  obtain ⟨a0, a1, a2, a3, a4⟩ := z1.cells
  obtain ⟨b0, b1, b2, b3, b4⟩ := z2.cells
  clear p0 p1 p2 p3 p4 q0 q1 q2 q3 q4 hb2 y1 y2 y3 HB1 HS1
  go_wp2_with fail
  refine (HOw.out _ HB2.out).mono ?_
  rintro e w3 ⟨tv3, lv3, rfl, own3, hb3⟩
  have y2 := z2.below hb3
  have y3 := z3.below hb3
  have HS3 := hide (Nat.le_trans HS2.out hb3.size)
  have HB3 := hide (Below.next HB2.out hb3)
  obtain ⟨p0, p1, p2, p3, p4⟩ := y2.cells
  obtain ⟨t3, ct3, rfl⟩ := OwnK.shape own3.tail
  obtain ⟨l3, cl3, rfl, _⟩ := own3.shp
  have own3' := own3.base HS2.out
  clear a0 a1 a2 a3 a4 b0 b1 b2 b3 b4 hb3 z1 z2 z3 HB2 HS2
  have k2 := fun o => keep_alloc p2 o
  have k4 := fun o => keep_alloc p4 o
  go_wp2_with fail
  clear k2 k4
  have X1 := BoxR.new w3 (.slice t3 a.tail.length ct3) (.slice l3 a.lv.length cl3) ⟨a.k, a.tail, a.lv, a.n, a.sl + b.sl⟩
  have hbX := (Below.refl w3.heap.size w3).alloc (Nat.le_refl _) (.cells #[.int .i64 a.k, .slice t3 a.tail.length ct3, .slice l3 a.lv.length cl3, .int .i64 a.n, .int .i64 (a.sl + b.sl)] 25)
  have X2 := OwnV.same (s' := ⟨a.k, a.tail, a.lv, a.n, a.sl + b.sl⟩) (own3'.below hbX (Nat.le_refl _)) rfl rfl
  have X3 := hide (y2.below hbX)
  have X4 := hide (y3.below hbX)
  have X5 := hide (HB3.out.alloc HB3.out.size (.cells #[.int .i64 a.k, .slice t3 a.tail.length ct3, .slice l3 a.lv.length cl3, .int .i64 a.n, .int .i64 (a.sl + b.sl)] 25))
  have X6 : Hid (w.heap.size + 3 ≤ w3.heap.size) := HS3
  have X7 : w.heap.size + 3 ≤ (w3.alloc (.cells #[.int .i64 a.k, .slice t3 a.tail.length ct3, .slice l3 a.lv.length cl3, .int .i64 a.n, .int .i64 (a.sl + b.sl)] 25)).heap.size := by have := HS3.out; simp; omega
  have XM : Hid (MgAt (w3.alloc (.cells #[.int .i64 a.k, .slice t3 a.tail.length ct3, .slice l3 a.lv.length cl3, .int .i64 a.n, .int .i64 (a.sl + b.sl)] 25)) w3.heap.size (w.heap.size + 3) a b b.n ⟨a.k, a.tail, a.lv, a.n, a.sl + b.sl⟩ (w3.alloc (.cells #[.int .i64 a.k, .slice t3 a.tail.length ct3, .slice l3 a.lv.length cl3, .int .i64 a.n, .int .i64 (a.sl + b.sl)] 25))) := ⟨⟨_, _, X1, X2⟩, HMG.out, Below.refl _ _, X7⟩
  clear own3 own3' y2 y3 HB3 HS3 X1 X2 hbX p0 p1 p2 p3 p4 HOw HKa HKb HMG X7
  have hq := X3.out.cells
  obtain ⟨p0, p1, p2, p3, p4⟩ := hq
  obtain ⟨g, hg⟩ : ∃ g, g = w3.heap.size := ⟨_, rfl⟩
  generalize hX : (w3.alloc (.cells #[.int .i64 a.k, .slice t3 a.tail.length ct3, .slice l3 a.lv.length cl3, .int .i64 a.n, .int .i64 (a.sl + b.sl)] 25)) = X at *
  rw [← hg] at XM X6
  simp only [← hg]
  clear hg hX
  obtain ⟨FIN, hFIN⟩ : ∃ F, F = P.casU ⟨a.k, a.tail, a.lv, a.n, a.sl + b.sl⟩ b.lv 0 := ⟨_, rfl⟩
  have HRF : Hid (R = b.tail.foldl P.adU FIN) := by have := HR.out; unfold P.mgU at this; rw [← hFIN] at this; exact this
  have HF := hide hFIN
  have hbn : b.n = ((2 ^ 0 * P.cnt (b.lv.drop 0) + b.tail.length : Nat) : Int) := by rw [HGb.out.1.n]; simp; omega
  have XM0 := XM.out
  rw [hbn] at XM0
  have XM1 := hide XM0
  have HAd := hide (fun tv lvv (s : P.Rk) v wx (hx : BoxR wx g tv lvv s) (ho : OwnV wx (w.heap.size + 3) tv lvv s) hm h1 h2 h5 h7 => add_any g (w.heap.size + 3) tv lvv s v wx X6.out hx ho hm h1 h2 h5 h7)
  have HFr := hide (fun wx v (l : List Int) (h : RowK .i64 wx v l) (hl : l.length ≤ 100000) => fresh_any v l wx h hl)
  clear hFIN hbn XM0 XM HR
  go_loopw [42] (fun i wr => ∃ (j : Nat) (s : P.Rk), j ≤ b.lv.length ∧ i = .int .i64 j ∧ P.casU s (b.lv.drop j) j = FIN ∧ MgAt X g (w.heap.size + 3) a b ((2 ^ j * P.cnt (b.lv.drop j) + b.tail.length : Nat) : Int) s wr) (fun i _ => b.lv.length - (intOf i).toNat)
  case atStart => exact ⟨0, _, by omega, rfl, HF.out.symm, XM1.out⟩
  case round =>
    obtain ⟨j, s, hj, rfl, hcs, hM⟩ := hrel
    have hbw : Below w.heap.size w wr := X5.out.trans (hM.below.mono (by omega))
    by_cases hlt : j < b.lv.length
    · obtain ⟨a', c', e', _, hcase⟩ := (HRb.out wr hbw).lv
      simp only [Value.slice.injEq] at e'
      obtain ⟨e1, _, e2⟩ := e'
      subst e1 e2
      rcases hcase with h | ⟨b', off, rfl, hbs, hcell⟩
      · rw [h] at hlt; simp at hlt
      have j0 : (0 : Int) ≤ (j : Int) := by omega
      have j1 : (j : Int) < (b.lv.length : Int) := by omega
      obtain ⟨l, hl⟩ : ∃ y, b.lv[j]? = some y := ⟨_, List.getElem?_eq_getElem hlt⟩
      obtain ⟨vj, g1, hrow⟩ := hcell j l hl
      obtain ⟨ar, cr, rfl, hlr, hmr⟩ := hrow.nil_of
      unfold maxLen at hmr
      have HL := hide hl
      have HM := hide hM
      have HC := hide hcs
      by_cases hne : l = []
      · subst hne
        clear hM hcs hcell hrow hl hbw XM1 HF
        go_wp2
        go_roundw
        case rel => exact ⟨j + 1, s, by omega, by go_num, by rw [← HC.out, P.cas_drop HL.out, if_pos rfl], HM.out.box, HM.out.mg.none HL.out, HM.out.below, HM.out.size⟩
        case measure => simp [intOf]; omega
      · obtain ⟨tv, lv, hx, ho⟩ := hM.box
        have hmg1 := hM.mg.list HGb.out HK.out hl hne
        obtain ⟨b1, b2, b3, b4⟩ := hM.mg.bounds HGa.out HGb.out HK.out (by omega)
        obtain ⟨d1, d2, d3, d4⟩ := hmg1.bounds HGa.out HGb.out HK.out (by omega)
        have hl64 : l.length ≤ 64 := by have := (HGb.out.1.lv l (List.mem_of_getElem? hl)).2; have := HGb.out.1.k64; omega
        have hp0 : 0 < l.length := by rcases Nat.eq_zero_or_pos l.length with h | h; exact absurd (List.length_eq_zero_iff.1 h) hne; exact h
        have hj20 : j ≤ 20 := by have := HGb.out.2.1; omega
        have HFj := hide (HFr.out wr _ l hrow (by omega))
        have HW := hide (fun wx => weigh_any l.length j wx hl64 (by omega))
        have hs3 := X6.out
        have hsg : w.heap.size + 3 ≤ g := hs3
        have hlv64 : ∀ m ∈ s.lv, m.length ≤ 64 := fun m hh => by have := (b4.lv m hh).2; have := b4.k64; omega
        have hsl0 := b4.sl
        have HCa := hide (fun wx v2 (X1 : BoxR wx g tv lv s) (X2 : OwnV wx (w.heap.size + 3) tv lv s) (X3 : OwnI wx (w.heap.size + 3) v2 l) (X4 : Apt v2 tv) (X5 : w.heap.size + 3 ≤ wx.heap.size) => carry_any g (w.heap.size + 3) tv lv v2 s l j wx hsg X1 X2 X3 X4 hsl0 (by show (P.caU s l j).sl ≤ _; omega) hl64 hlv64 (by omega) (by omega) X5)
        obtain ⟨z, hz⟩ : ∃ z : Int, ((l.length * 2 ^ j : Nat) : Int) = z := ⟨_, rfl⟩
        rw [P.caU_z hz] at d3 hmg1
        simp only at d3
        have hn0 : 0 ≤ s.n := by rw [b4.n]; omega
        have hz0 : 0 ≤ z := by rw [← hz]; exact Int.natCast_nonneg _
        have HZ := hide hz
        simp only [hz] at HW
        have HMG1 := hide hmg1
        have HX := hide hx
        have HO := hide ho
        have HS := hide hM.size
        obtain ⟨x0, x1, x2, x3, x4⟩ := hx.cells
        generalize hcar : P.car s.lv l j = CA at *
        have HCA := hide hcar
        clear hM hcs hcell hrow hl hbw XM1 HF hx ho hlv64 b4 d1 d2 d4 hz hmg1 hcar hs3 HFr
        go_wp2_with (first
          | (go_at_call 38; go_must (refine HFj.out.mono ?_); rintro e w5 ⟨v5, rfl, own5, hb5⟩; obtain ⟨a5, k5, rfl⟩ := OwnK.shape own5)
          | (go_at_call 37; go_must (refine (HCa.out w5 _ (HX.out.below hb5) (HO.out.below hb5 (Nat.le_refl _)) (OwnK.base own5 HS.out) (fun b hb1 hb3 => by have h6 := (own5.lt b hb1).1; have h7 := (HO.out.tail.lt b hb3).2; omega) (Nat.le_trans HS.out hb5.size)).mono ?_); rintro e w6 ⟨rfl, lv6, hx6, ho6, hb6, hs6⟩))
        have q3 : w6.drew.cell? ⟨g, 3, none⟩ = some (.int .i64 s.n) := hx6.cells.2.2.2.1
        have u3 : w6.drew.frozen? ⟨g, 3, none⟩ = false := hx6.unfrozen 3
        have HX6 := hide hx6
        have HO6 := hide ho6
        have HB6 := hide hb6
        have HS6 := hide hs6
        have HB5 := hide hb5
        clear own5 hb5 hx6 ho6 hb6 hs6 HX HO
        first | (go_region_with (go_at_call 39; refine (HW.out _).mono ?_; rintro e w7 ⟨rfl, rfl⟩)) | fail
        all_goals
          have hwz : IntKind.i64.wrap (s.n + z) = s.n + z := by rw [IntKind.wrap_i64]; omega
          rw [hwz]
          clear hwz
          have Y1 : BoxR (w6.setCell ⟨g, 3, none⟩ (.int .i64 (s.n + z))).drew g tv lv6 ⟨s.k, s.tail, CA.1, s.n + z, s.sl + CA.2⟩ := HX6.out.num (s.n + z)
          have Y2 : OwnV (w6.setCell ⟨g, 3, none⟩ (.int .i64 (s.n + z))).drew (w.heap.size + 3) tv lv6 ⟨s.k, s.tail, CA.1, s.n + z, s.sl + CA.2⟩ := OwnV.same (OwnV.drew (HO6.out.box HX6.out 3 _)) rfl rfl
          have Y3 : Below (w.heap.size + 3) X (w6.setCell ⟨g, 3, none⟩ (.int .i64 (s.n + z))).drew := (((HM.out.below.trans (HB5.out.mono HS.out)).trans HB6.out).setCell hsg _).drew
          have Y4 : w.heap.size + 3 ≤ (w6.setCell ⟨g, 3, none⟩ (.int .i64 (s.n + z))).drew.heap.size := by
            show w.heap.size + 3 ≤ (w6.setCell ⟨g, 3, none⟩ (.int .i64 (s.n + z))).heap.size
            simp; exact HS6.out
          have HY1 := hide Y1
          have HY2 := hide Y2
          clear Y1 Y2 q3 u3
          generalize (w6.setCell ⟨g, 3, none⟩ (.int .i64 (s.n + z))).drew = X' at *
          go_wp2
          go_roundw
          case rel =>
            refine ⟨j + 1, _, by omega, by go_num, ?_, ⟨_, _, HY1.out, HY2.out⟩, HMG1.out, Y3, Y4⟩
            rw [← HC.out, P.cas_drop HL.out, if_neg hne, P.caU_z HZ.out, HCA.out]
          case measure => simp [intOf]; omega
    · have hd : decide ((j : Int) < (b.lv.length : Int)) = false := by simp; omega
      obtain rfl : j = b.lv.length := by omega
      rw [List.drop_length] at hcs hM
      have z2 : BoxR wr (w.heap.size + 1) (.slice tB b.tail.length cB) (.slice lB b.lv.length dB) b := (hM.below.block (w.heap.size + 1) (by omega)).trans X3.out
      have z3 : BoxR wr (w.heap.size + 2) (.slice none 0 0) (.slice none 0 0) ⟨0, [], [], 0, 0⟩ := (hM.below.block (w.heap.size + 2) (by omega)).trans X4.out
      have HZ3 := hide z3
      have HBw := hide hbw
      have hR0 : (b.tail.drop 0).foldl P.adU s = R := by rw [HRF.out, ← hcs]; rfl
      have HR0 := hide hR0
      have hM0 := hM
      rw [show ((2 ^ b.lv.length * P.cnt [] + b.tail.length : Nat) : Int) = ((b.tail.length - 0 : Nat) : Int) by simp [P.cnt]] at hM0
      have HM0 := hide hM0
      obtain ⟨p0, p1, p2, p3, p4⟩ := z2.cells
      clear hM hM0 hR0 hcs hbw XM1 HF z2 z3 HFr
      go_wp2
      clear p0 p1 p2 p3 p4
      go_loopw [66] (fun i wr => ∃ (j : Nat) (s : P.Rk), j ≤ b.tail.length ∧ i = .int .i64 j ∧ (b.tail.drop j).foldl P.adU s = R ∧ MgAt X g (w.heap.size + 3) a b ((b.tail.length - j : Nat) : Int) s wr) (fun i _ => b.tail.length - (intOf i).toNat)
      case atStart => exact ⟨0, _, by omega, rfl, HR0.out, HM0.out⟩
      case round =>
        clear HR0 HM0
        obtain ⟨j, s, hj, rfl, hcs, hM⟩ := hrel
        have hbw : Below w.heap.size w wr := X5.out.trans (hM.below.mono (by omega))
        by_cases hlt : j < b.tail.length
        · obtain ⟨a', c', e', _, hcase⟩ := (HRb.out wr hbw).tail
          simp only [Value.slice.injEq] at e'
          obtain ⟨e1, _, e2⟩ := e'
          subst e1 e2
          rcases hcase with h | ⟨b', off, rfl, hbs, hcell⟩
          · rw [h] at hlt; simp at hlt
          have j0 : (0 : Int) ≤ (j : Int) := by omega
          have j1 : (j : Int) < (b.tail.length : Int) := by omega
          have g1 := hcell j hlt
          obtain ⟨tv, lv, hx, ho⟩ := hM.box
          have hmg1 := hM.mg.ad (b.tail.getD j 0)
          obtain ⟨b1, b2, b3, b4⟩ := hM.mg.bounds HGa.out HGb.out HK.out (by omega)
          obtain ⟨d1, d2, d3, d4⟩ := hmg1.bounds HGa.out HGb.out HK.out (by omega)
          have e1 : (((b.tail.length - j : Nat) : Int) - 1) = ((b.tail.length - (j + 1) : Nat) : Int) := by omega
          rw [e1] at hmg1
          have HA1 := hide (HAd.out tv lv s (b.tail.getD j 0) wr hx ho b4 (by omega) (by omega) (by omega) hM.size)
          have HM := hide hM
          have HMG1 := hide hmg1
          have HDr := hide (P.ads_drop (s := s) hlt)
          have HC := hide hcs
          generalize b.tail.getD j 0 = v at *
          clear hM hcs hcell hbw hx ho b1 b2 b3 b4 d1 d2 d3 d4 hmg1 e1
          go_wp2_with (go_at_call 28; go_must (refine HA1.out.mono ?_); rintro e w6 ⟨rfl, tv6, lv6, hx6, ho6, hb6, hs6⟩)
          go_roundw
          case rel => exact ⟨j + 1, _, by omega, by go_num, by rw [← HC.out, HDr.out], ⟨_, _, hx6, ho6⟩, HMG1.out, HM.out.below.trans hb6, hs6⟩
          case measure => simp [intOf]; omega
        · have hd : decide ((j : Int) < (b.tail.length : Int)) = false := by simp; omega
          obtain rfl : j = b.tail.length := by omega
          rw [List.drop_length] at hcs
          rw [show s = R from hcs] at hM
          obtain ⟨tv4, lv4, hx4, ho4⟩ := hM.box
          have z4 : BoxR wr (w.heap.size + 2) (.slice none 0 0) (.slice none 0 0) ⟨0, [], [], 0, 0⟩ := (hM.below.block (w.heap.size + 2) (by omega)).trans X4.out
          have HB4 := hide hbw
          obtain ⟨at4, ct4, rfl⟩ := OwnK.shape ho4.tail
          obtain ⟨al4, cl4, rfl, _⟩ := ho4.shp
          obtain ⟨f0, f1, f2, f3, f4⟩ := hx4.cells
          have HO4 := hide ho4
          clear hM hx4 ho4 hbw HZ3 HBw HAd HRb
          by_cases hb0 : P.bndE R = 0
          · have HBd := hide (fun wx => bounded_ok (.slice at4 R.tail.length ct4) al4 cl4 R wx hb0 ⟨_, _, rfl⟩)
            go_wp2_with (go_at_call 29; go_must (refine (HBd.out _).mono ?_); rintro e w5 ⟨rfl, hb5⟩; have z5 := z4.below hb5; obtain ⟨c0, c1, c2, c3, c4⟩ := z5.cells; have u0 := z5.unfrozen 0; have u1 := z5.unfrozen 1; have u2 := z5.unfrozen 2; have u3 := z5.unfrozen 3; have u4 := z5.unfrozen 4)
            have z6 := z5.all (.slice at4 R.tail.length ct4) (.slice al4 R.lv.length cl4) R
            have o6 : OwnV (setR w5 (w.heap.size + 2) (.slice at4 R.tail.length ct4) (.slice al4 R.lv.length cl4) R) (w.heap.size + 2) (.slice at4 R.tail.length ct4) (.slice al4 R.lv.length cl4) R := (OwnV.setR' (HO4.out.below hb5 (Nat.le_refl _)) z5).base (by omega)
            have b6 : Below w.heap.size w (setR w5 (w.heap.size + 2) (.slice at4 R.tail.length ct4) (.slice al4 R.lv.length cl4) R) := Below.setR' (Below.next HB4.out hb5) (by omega) _ _ _
            obtain ⟨r0, r1, r2, r3, r4⟩ := z6.cells
            refine bodyPost_ret (w := setR w5 (w.heap.size + 2) (.slice at4 R.tail.length ct4) (.slice al4 R.lv.length cl4) R) (v := .tuple #[aggR (.slice at4 R.tail.length ct4) (.slice al4 R.lv.length cl4) R, .int .i64 0]) ?_ rfl (rkPost_ok hb0 (o6.base (Nat.zero_le _)) b6)
            generalize setR w5 (w.heap.size + 2) (.slice at4 R.tail.length ct4) (.slice al4 R.lv.length cl4) R = wf at *
            simp [results, Try.results16, go_sem, r0, r1, r2, r3, r4]
          · have HBd := hide (fun wx => bounded_bad (.slice at4 R.tail.length ct4) al4 cl4 R wx hb0 ⟨_, _, rfl⟩)
            go_wp2_with (go_at_call 29; go_must (refine (HBd.out _).mono ?_); rintro e w5 ⟨rfl, hb5⟩; have z5 := z4.below hb5; obtain ⟨c0, c1, c2, c3, c4⟩ := z5.cells; have u0 := z5.unfrozen 0; have u1 := z5.unfrozen 1; have u2 := z5.unfrozen 2; have u3 := z5.unfrozen 3; have u4 := z5.unfrozen 4)
            have z6 := z5.all (.slice none 0 0) (.slice none 0 0) ⟨0, [], [], 0, 0⟩
            have b6 : Below w.heap.size w (setR w5 (w.heap.size + 2) (.slice none 0 0) (.slice none 0 0) ⟨0, [], [], 0, 0⟩) := Below.setR' (Below.next HB4.out hb5) (by omega) _ _ _
            obtain ⟨r0, r1, r2, r3, r4⟩ := z6.cells
            refine bodyPost_ret (w := setR w5 (w.heap.size + 2) (.slice none 0 0) (.slice none 0 0) ⟨0, [], [], 0, 0⟩) (v := .tuple #[zeroR, .int .i64 2]) ?_ rfl (rkPost_bad hb0 b6)
            generalize setR w5 (w.heap.size + 2) (.slice none 0 0) (.slice none 0 0) ⟨0, [], [], 0, 0⟩ = wf at *
            simp [results, Try.results16, go_sem, r0, r1, r2, r3, r4]
end Go.Proofs.Ytlndbmenaaiogaa
