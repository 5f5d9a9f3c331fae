/- Several texts in one. -/
import Derived.Test.YtpinhcbkfjoopaaLeMAll
/- What the document's own SameLeast, LeastFault and Sieved answer. -/
namespace Go.Proofs.Ytpinhcbkfjoopaa
open Go.RowKit
set_option linter.unusedVariables false
set_option linter.unusedSimpArgs false
theorem below_nu (w : World) (o : Obj) : Below w.heap.size w (w.alloc o) := (Below.refl _ w).alloc (Nat.le_refl _) o
set_option maxRecDepth 100000 in
set_option maxHeartbeats 2000000 in
theorem SameLeast_yes (u v : Value) (S : P.Ls) (w : World) (h : RowK .u64 w u S.h) (h' : RowK .u64 w v S.h) : Calls Try.prog 12 #[aggL u S, aggL v S] w fun e w' => e = .returned (.bool true) ∧ Below w.heap.size w w' := by
  have hb1 := below_nu w (.cells #[.int .i64 S.k, u] 24)
  have hb2 := below_nu (w.alloc (.cells #[.int .i64 S.k, u] 24)) (.cells #[.int .i64 S.k, v] 24)
  have HB : Hid (Below w.heap.size w ((w.alloc (.cells #[.int .i64 S.k, u] 24)).alloc (.cells #[.int .i64 S.k, v] 24))) := hide (hb1.alloc hb1.size _)
  have hX := (BoxL.new w u S).below hb2
  have hY := BoxL.new (w.alloc (.cells #[.int .i64 S.k, u] 24)) v S
  have hs1 : (w.alloc (.cells #[.int .i64 S.k, u] 24)).heap.size = w.heap.size + 1 := by simp
  rw [hs1] at hY
  have hr1 := (h.below hb1 (Nat.le_refl _)).below hb2 (Nat.le_refl _)
  have hr2 := (h'.below hb1 (Nat.le_refl _)).below hb2 (Nat.le_refl _)
  obtain ⟨a, c, hu⟩ := h.shp
  obtain ⟨a2, c2, hv⟩ := h'.shp
  subst hu hv
  obtain ⟨x0, x1⟩ := hX.cells
  obtain ⟨y0, y1⟩ := hY.cells
  simp only [cellsL] at x0 x1 y0 y1
  have d0 : (S.k != S.k) = false := by simp
  have d1 : ((S.h.length : Int) != (S.h.length : Int)) = false := by simp
  clear h h' hX hY hs1 hb1 hb2
  go_enter Try.func12, Try.ntmps12
  go_upto_region 1 with fail
  generalize (w.alloc (.cells #[.int .i64 S.k, .slice a S.h.length c] 24)).alloc (.cells #[.int .i64 S.k, .slice a2 S.h.length c2] 24) = W at *
  obtain ⟨aa, cc, hv, ⟨hl1, hm1, _⟩, hc1⟩ := hr1
  obtain ⟨ab, cb, hv2, ⟨hl2, hm2, _⟩, hc2⟩ := hr2
  simp only [Value.slice.injEq, true_and] at hv hv2
  obtain ⟨rfl, rfl⟩ := hv
  obtain ⟨rfl, rfl⟩ := hv2
  unfold maxLen at hm1 hm2
  go_wp2
  go_loopw [23] (fun i wr => ∃ j : Nat, j ≤ S.h.length ∧ i = .int .i64 j ∧ ∃ q, wr = W.drewN q) (fun i _ => S.h.length - (intOf i).toNat)
  case atStart => exact ⟨0, by omega, rfl, 0, rfl⟩
  case round =>
    obtain ⟨j, hj, rfl, hq⟩ := hrel
    have HQ := hide hq
    have hcw : ∀ (p : Addr), wr.cell? p = W.cell? p := by obtain ⟨q, rfl⟩ := hq; exact fun _ => rfl
    have z1 : wr.cell? ⟨w.heap.size, 1, none⟩ = some (.slice a S.h.length c) := (hcw _).trans x1
    have z2 : wr.cell? ⟨w.heap.size + 1, 1, none⟩ = some (.slice a2 S.h.length c2) := (hcw _).trans y1
    clear hq
    by_cases hlt : j < S.h.length
    · have hd : decide ((j : Int) < (S.h.length : Int)) = true := by simp; omega
      rcases hc1 with h | ⟨b, off, rfl, hbs, hcell⟩
      · rw [h] at hlt; simp at hlt
      rcases hc2 with h | ⟨b2, off2, rfl, hbs2, hcell2⟩
      · rw [h] at hlt; simp at hlt
      have j0 : (0 : Int) ≤ (j : Int) := by omega
      have j1 : (j : Int) < (S.h.length : Int) := by omega
      have q0 : wr.cell? ⟨b, off + j, none⟩ = _ := (hcw _).trans (hcell j (by omega))
      have q1 : wr.cell? ⟨b2, off2 + j, none⟩ = _ := (hcw _).trans (hcell2 j (by omega))
      generalize S.h.getD j 0 = y at *
      have hdy : (y != y) = false := by simp
      clear hcell hcell2 hcw x0 x1 y0 y1
      go_wp2
      go_quiet (fail)
      go_wp2
      go_roundw
      case rel => exact ⟨j + 1, by omega, by go_num, dn_ex HQ.out _⟩
      case measure => simp [intOf]; omega
    · have hd2 : decide ((j : Int) < (S.h.length : Int)) = false := by simp; omega
      obtain rfl : j = S.h.length := by omega
      go_wp2
      go_ret
      obtain ⟨q, rfl⟩ := HQ.out
      exact ⟨rfl, below_dn HB.out _⟩
set_option maxRecDepth 100000 in
set_option maxHeartbeats 4000000 in
theorem LeastFault_any (lv : Value) (s : P.Ls) (w : World) (hr : RowK .u64 w lv s.h) :
    Calls Try.prog 13 #[aggL lv s] w fun e w' => e = .returned (.int .i64 (P.chkL s)) ∧ Below w.heap.size w w' := by
  obtain ⟨k, l⟩ := s
  simp only at hr
  obtain ⟨c, hc⟩ : ∃ c, P.chkL ⟨k, l⟩ = c := ⟨_, rfl⟩
  have HC := hide hc
  rw [hc]
  clear hc
  have hb := below_nu w (.cells #[.int .i64 k, lv] 24)
  have HB := hide hb
  have hr1 := hr.below hb (Nat.le_refl _)
  have hX : BoxL (w.alloc (.cells #[.int .i64 k, lv] 24)) w.heap.size lv ⟨k, l⟩ := BoxL.new w lv ⟨k, l⟩
  obtain ⟨x0, x1⟩ := hX.cells
  simp only at x0
  obtain ⟨la, lc, rfl⟩ := hr.shp
  clear hr hX hb
  by_cases h1 : k < 2
  · have d1 : decide (k < 2) = true := by simpa using h1
    have HE : Hid (c = 4) := hide (by rw [← HC.out]; exact P.chkL_no fun h => by have := h.k2; simp only at this; omega)
    go_enter Try.func13, Try.ntmps13
    go_wp2
    go_ret
    rw [HE.out]; exact ⟨rfl, HB.out⟩
  · have d1 : decide (k < 2) = false := by simpa using h1
    by_cases h2 : 64 < k
    · have d2 : decide (64 < k) = true := by simpa using h2
      have HE : Hid (c = 4) := hide (by rw [← HC.out]; exact P.chkL_no fun h => by have := h.k64; simp only at this; omega)
      go_enter Try.func13, Try.ntmps13
      go_wp2
      go_ret
      rw [HE.out]; exact ⟨rfl, HB.out⟩
    · have d2 : decide (64 < k) = false := by simpa using h2
      by_cases h3 : k < (l.length : Int)
      · have d3 : decide (k < (l.length : Int)) = true := by simpa using h3
        have HE : Hid (c = 4) := hide (by rw [← HC.out]; exact P.chkL_no fun h => by have := h.len; simp only at this; omega)
        go_enter Try.func13, Try.ntmps13
        go_wp2
        go_ret
        rw [HE.out]; exact ⟨rfl, HB.out⟩
      · have d3 : decide (k < (l.length : Int)) = false := by simpa using h3
        have HG : Hid ((∀ i, 0 < i → i < l.length → l.getD (i - 1) 0 < l.getD i 0) → c = 0) := hide (fun h => by rw [← HC.out]; exact P.chkL_ok ⟨by simp only; omega, by simp only; omega, by simp only; omega, up_at h⟩)
        have HN : Hid (∀ i, 0 < i → i < l.length → l.getD i 0 ≤ l.getD (i - 1) 0 → c = 4) := hide (fun i h1 h2 h3 => by rw [← HC.out]; exact P.chkL_no fun h => by have := up_of h.up (show i - 1 < i by omega) h2; simp only at this; omega)
        clear HC h1 h2 h3
        go_enter Try.func13, Try.ntmps13
        go_upto_region 1 with fail
        generalize w.alloc (.cells #[.int .i64 k, .slice la l.length lc] 24) = W at *
        obtain ⟨aa, cc, hv, ⟨hl1, hm1, _⟩, hcase⟩ := hr1
        simp only [Value.slice.injEq, true_and] at hv
        obtain ⟨rfl, rfl⟩ := hv
        unfold maxLen at hm1
        go_wp2
        go_loopw [23] (fun i wr => ∃ j : Nat, j ≤ l.length ∧ i = .int .i64 j ∧ Hid (∀ i, 0 < i → i < j → l.getD (i - 1) 0 < l.getD i 0) ∧ ∃ q, wr = W.drewN q) (fun i _ => l.length - (intOf i).toNat)
        case atStart => exact ⟨0, by omega, rfl, hide fun i h1 h2 => by omega, 0, rfl⟩
        case round =>
          obtain ⟨j, hj, rfl, HI, hq⟩ := hrel
          have HQ := hide hq
          have hcw : ∀ (p : Addr), wr.cell? p = W.cell? p := by obtain ⟨q, rfl⟩ := hq; exact fun _ => rfl
          have z1 : wr.cell? ⟨w.heap.size, 1, none⟩ = some (.slice la l.length lc) := (hcw _).trans x1
          clear hq
          by_cases hlt : j < l.length
          · have hd : decide ((j : Int) < (l.length : Int)) = true := by simp; omega
            rcases hcase with h | ⟨b, off, rfl, hbs, hcell⟩
            · rw [h] at hlt; simp at hlt
            have j0 : (0 : Int) ≤ (j : Int) := by omega
            have j1 : (j : Int) < (l.length : Int) := by omega
            by_cases hj0 : 0 < j
            · have hd0 : decide (0 < (j : Int)) = true := by simp; omega
              obtain ⟨i, hi⟩ : ∃ i, i + 1 = j := ⟨j - 1, by omega⟩
              have ei : IntKind.i64.wrap ((j : Int) - 1) = (i : Int) := by rw [IntKind.wrap_i64]; omega
              have HII := hide hi
              have q0 : wr.cell? ⟨b, off + j, none⟩ = _ := (hcw _).trans (hcell j (by omega))
              have q1 : wr.cell? ⟨b, off + i, none⟩ = _ := (hcw _).trans (hcell i (by omega))
              have i0 : (0 : Int) ≤ (i : Int) := by omega
              have i1 : (i : Int) < (l.length : Int) := by omega
              obtain ⟨x, hx⟩ : ∃ x, l.getD j 0 = x := ⟨_, rfl⟩
              obtain ⟨y, hy⟩ : ∃ y, l.getD i 0 = y := ⟨_, rfl⟩
              rw [hx] at q0
              rw [hy] at q1
              have HX := hide hx
              have HY := hide hy
              clear hx hy hi hcell hcw x0 x1
              by_cases hxy : x ≤ y
              · have hdx : decide (x ≤ y) = true := by simpa using hxy
                go_wp2
                go_quiet (fail)
                go_wp2
                go_ret
                obtain ⟨q, rfl⟩ := HQ.out
                rw [HN.out j hj0 hlt (by rw [show j - 1 = i by have := HII.out; omega, HX.out, HY.out]; exact hxy)]
                exact ⟨rfl, below_dn (below_dn HB.out _) _⟩
              · have hdx : decide (x ≤ y) = false := by simpa using hxy
                go_wp2
                go_quiet (fail)
                go_wp2
                go_roundw
                case rel =>
                  refine ⟨j + 1, by omega, by go_num, hide fun t h1 h2 => ?_, dn_ex HQ.out _⟩
                  rcases Nat.lt_or_ge t j with h3 | h3
                  · exact HI.out t h1 h3
                  · obtain rfl : t = j := by omega
                    rw [show t - 1 = i by have := HII.out; omega, HX.out, HY.out]; omega
                case measure => simp [intOf]; omega
            · have hd0 : decide (0 < (j : Int)) = false := by simp; omega
              clear hcell hcw x0 x1
              go_wp2
              go_quiet (fail)
              go_wp2
              go_roundw
              case rel => exact ⟨j + 1, by omega, by go_num, hide fun t h1 h2 => by omega, dn_ex HQ.out _⟩
              case measure => simp [intOf]; omega
          · have hd2 : decide ((j : Int) < (l.length : Int)) = false := by simp; omega
            obtain rfl : j = l.length := by omega
            go_wp2
            go_ret
            obtain ⟨q, rfl⟩ := HQ.out
            rw [HG.out HI.out]
            exact ⟨rfl, below_dn HB.out _⟩
end Go.Proofs.Ytpinhcbkfjoopaa
