/- Several texts in one. -/
import Derived.Test.YtenfpkokogfdaaaSkCkAll
/- What the document's own SketchFault answers. -/
namespace Go.Proofs.Ytenfpkokogfdaaa
open Go.RowKit
set_option linter.unusedVariables false
theorem Fault_early (cv : Value) (s : P.Rw) (w : World) (hr : RowK .i64 w cv s.c) (h : P.arB s.d s.w = false ∨ (P.arB s.d s.w = true ∧ (s.c.length : Int) ≠ s.d * s.w) ∨ (P.arB s.d s.w = true ∧ (s.c.length : Int) = s.d * s.w ∧ s.n < 0) ∨ (P.arB s.d s.w = true ∧ (s.c.length : Int) = s.d * s.w ∧ 0 ≤ s.n ∧ 1152921504606846976 < s.n)) :
    Calls Try.prog 13 #[aggS cv s] w fun e w' => e = .returned (.int .i64 4) ∧ Below w.heap.size w w' := by
  have hb : P.arB s.d s.w = true → 1 ≤ s.d ∧ s.d ≤ 8 ∧ 1 ≤ s.w ∧ s.w ≤ 200 ∧ s.d * s.w ≤ 1600 ∧ 0 ≤ s.d * s.w := by
    intro h
    unfold P.arB at h
    simp at h
    obtain ⟨h1, h2, h3, h4⟩ := h
    have h5 : s.d * s.w ≤ 8 * s.w := Int.mul_le_mul_of_nonneg_right h2 (by omega)
    exact ⟨h1, h2, h3, h4, by omega, Int.mul_nonneg (by omega) (by omega)⟩
  have hw : P.arB s.d s.w = true → IntKind.i64.wrap (s.d * s.w) = s.d * s.w := by intro h; have := hb h; rw [IntKind.wrap_i64]; omega
  obtain ⟨av, cap, hcv⟩ := hr.shp
  have HBe := hide ((Below.refl w.heap.size w).alloc (Nat.le_refl _) (.cells #[.int .i64 s.d, .int .i64 s.w, cv, .int .i64 s.n] 24))
  subst hcv
  clear hr
  rcases h with h | h
  · unfold P.arB at h
    rw [decide_eq_false_iff_not] at h
    clear hb hw
    by_cases h1 : s.d < 1
    · have d1 : decide (s.d < 1) = true := by simpa using h1
      clear h h1
      go_enter Try.func13, Try.ntmps13
      go_wp2
      go_ret
      exact ⟨rfl, HBe.out⟩
    · have d1 : decide (s.d < 1) = false := by simpa using h1
      by_cases h2 : 8 < s.d
      · have d2 : decide (8 < s.d) = true := by simpa using h2
        clear h h1 h2
        go_enter Try.func13, Try.ntmps13
        go_wp2
        go_ret
        exact ⟨rfl, HBe.out⟩
      · have d2 : decide (8 < s.d) = false := by simpa using h2
        by_cases h3 : s.w < 1
        · have d3 : decide (s.w < 1) = true := by simpa using h3
          clear h h1 h2 h3
          go_enter Try.func13, Try.ntmps13
          go_wp2
          go_ret
          exact ⟨rfl, HBe.out⟩
        · have d3 : decide (s.w < 1) = false := by simpa using h3
          have h4 : 200 < s.w := by omega
          have d4 : decide (200 < s.w) = true := by simpa using h4
          clear h h1 h2 h3 h4
          go_enter Try.func13, Try.ntmps13
          go_wp2
          go_ret
          exact ⟨rfl, HBe.out⟩
  · have ha : P.arB s.d s.w = true := by rcases h with h | h | h <;> exact h.1
    obtain ⟨b1, b2, b3, b4, b5, b6⟩ := hb ha
    have e1 := hw ha
    have d1 : decide (s.d < 1) = false := by simp; omega
    have d2 : decide (8 < s.d) = false := by simp; omega
    have d3 : decide (s.w < 1) = false := by simp; omega
    have d4 : decide (200 < s.w) = false := by simp; omega
    clear hb hw ha b1 b2 b3 b4
    rcases h with ⟨_, h2⟩ | ⟨_, h2, h3⟩ | ⟨_, h2, h3, h4⟩
    · have d5 : ((s.c.length : Int) != s.d * s.w) = true := by rw [bne_iff_ne]; exact h2
      clear h2
      go_enter Try.func13, Try.ntmps13
      go_wp2
      go_ret
      exact ⟨rfl, HBe.out⟩
    · have d5 : ((s.c.length : Int) != s.d * s.w) = false := by rw [bne_eq_false_iff_eq]; exact h2
      have d6 : decide (s.n < 0) = true := by simpa using h3
      clear h2 h3
      go_enter Try.func13, Try.ntmps13
      go_wp2
      go_ret
      exact ⟨rfl, HBe.out⟩
    · have d5 : ((s.c.length : Int) != s.d * s.w) = false := by rw [bne_eq_false_iff_eq]; exact h2
      have d6 : decide (s.n < 0) = false := by simpa using h3
      have d7 : decide (1152921504606846976 < s.n) = true := by simpa using h4
      clear h2 h3 h4
      go_enter Try.func13, Try.ntmps13
      go_wp2
      go_ret
      exact ⟨rfl, HBe.out⟩
set_option maxRecDepth 100000 in
set_option maxHeartbeats 4000000 in
theorem Fault_rows (b off cap d x : Nat) (c : List Int) (n : Int) (w : World) (hd1 : 1 ≤ d) (hd8 : d ≤ 8) (hx1 : 1 ≤ x) (hx2 : x ≤ 200) (hlen : c.length = d * x) (h0 : 0 ≤ n) (h1 : n ≤ 1152921504606846976) (hcap : d * x ≤ cap) (hcm : cap ≤ maxLen) (hbs : b < w.heap.size) (hcell : ∀ j, j < d * x → w.cell? ⟨b, off + j, none⟩ = some (.int .i64 (c.getD j 0))) :
    Calls Try.prog 13 #[.agg #[.int .i64 d, .int .i64 x, .slice (some ⟨b, off, none⟩) (d * x) cap, .int .i64 n]] w fun e w' => e = .returned (.int .i64 (P.chkS ⟨d, x, c, n⟩)) ∧ Below w.heap.size w w' := by
  have har : P.arB (d : Int) (x : Int) = true := by unfold P.arB; simp; omega
  have hdx : d * x ≤ 1600 := Nat.mul_le_mul hd8 hx2
  have e1 : IntKind.i64.wrap ((d : Int) * (x : Int)) = ((d * x : Nat) : Int) := by
    rw [← Int.natCast_mul, IntKind.wrap_i64]
    generalize d * x = z at hdx
    omega
  have d1 : decide ((d : Int) < 1) = false := by simp; omega
  have d2 : decide (8 < (d : Int)) = false := by simp; omega
  have d3 : decide ((x : Int) < 1) = false := by simp; omega
  have d4 : decide (200 < (x : Int)) = false := by simp; omega
  have d5 : (((d * x : Nat) : Int) != ((d * x : Nat) : Int)) = false := by simp
  have d6 : decide (n < 0) = false := by simpa using h0
  have d7 : decide (1152921504606846976 < n) = false := by simpa using h1
  unfold maxLen at hcm
  have HBad : Hid (∀ i : Nat, i < d → P.addB ((c.drop (i * x)).take x) n = false → P.chkS ⟨d, x, c, n⟩ = 4) := fun i hi h => P.chkS_no fun hg => by
    have h2 := (P.parts_of hg).2.2.2.2 i (by show (i : Int) < (d : Int); omega)
    simp only [Int.toNat_natCast] at h2
    rw [h] at h2; cases h2
  have HGood : Hid ((∀ i : Nat, i < d → P.addB ((c.drop (i * x)).take x) n = true) → P.chkS ⟨d, x, c, n⟩ = 0) := fun h => P.chkS_ok (P.good_of har (by show (c.length : Int) = (d : Int) * (x : Int); rw [hlen]; simp) h0 h1 (fun i hi => by
    have hi' : i < d := by have h : (i : Int) < (d : Int) := hi; omega
    have := h i hi'
    simpa using this))
  have HB := hide ((Below.refl w.heap.size w).alloc (Nat.le_refl _) (.cells #[.int .i64 d, .int .i64 x, .slice (some ⟨b, off, none⟩) (d * x) cap, .int .i64 n] 24))
  have HCell : Hid (∀ j, j < d * x → (w.alloc (.cells #[.int .i64 d, .int .i64 x, .slice (some ⟨b, off, none⟩) (d * x) cap, .int .i64 n] 24)).cell? ⟨b, off + j, none⟩ = some (.int .i64 (c.getD j 0))) := fun j hj => keep_alloc (hcell j hj) _
  have c0 : (w.alloc (.cells #[.int .i64 d, .int .i64 x, .slice (some ⟨b, off, none⟩) (d * x) cap, .int .i64 n] 24)).cell? ⟨w.heap.size, 0, none⟩ = some (.int .i64 d) := by simp
  have c1 : (w.alloc (.cells #[.int .i64 d, .int .i64 x, .slice (some ⟨b, off, none⟩) (d * x) cap, .int .i64 n] 24)).cell? ⟨w.heap.size, 1, none⟩ = some (.int .i64 x) := by simp
  have c2 : (w.alloc (.cells #[.int .i64 d, .int .i64 x, .slice (some ⟨b, off, none⟩) (d * x) cap, .int .i64 n] 24)).cell? ⟨w.heap.size, 2, none⟩ = some (.slice (some ⟨b, off, none⟩) (d * x) cap) := by simp
  have c3 : (w.alloc (.cells #[.int .i64 d, .int .i64 x, .slice (some ⟨b, off, none⟩) (d * x) cap, .int .i64 n] 24)).cell? ⟨w.heap.size, 3, none⟩ = some (.int .i64 n) := by simp
  clear hcell har
  go_enter Try.func13, Try.ntmps13
  go_upto_region 1 with fail
  generalize w.alloc (.cells #[.int .i64 d, .int .i64 x, .slice (some ⟨b, off, none⟩) (d * x) cap, .int .i64 n] 24) = W1 at *
  go_wp2
  clear d1 d2 d3 d4 d5 d6 d7
  go_loop [48] (fun i => ∃ k : Nat, k ≤ d ∧ i = .int .i64 k ∧ ∀ j, j < k → P.addB ((c.drop (j * x)).take x) n = true) (fun i => d - (intOf i).toNat)
  case atStart => exact ⟨0, by omega, rfl, fun j hj => by omega⟩
  case round =>
    obtain ⟨k, hk, rfl, hall⟩ := hrel
    have HAll := hide hall
    clear hall
    by_cases hlt : k < d
    · have j0 : (0 : Int) ≤ (k : Int) := by omega
      have j1 : (k : Int) < (d : Int) := by omega
      have hkx : k * x + x ≤ d * x := by have : (k + 1) * x ≤ d * x := Nat.mul_le_mul_right _ hlt; rw [Nat.succ_mul] at this; exact this
      have e2 : IntKind.i64.wrap ((k : Int) * (x : Int)) = ((k * x : Nat) : Int) := by rw [← Int.natCast_mul, IntKind.wrap_i64]; generalize k * x = z at hkx; omega
      have e3 : IntKind.i64.wrap (((k * x : Nat) : Int) + (x : Int)) = ((k * x + x : Nat) : Int) := by rw [IntKind.wrap_i64]; omega
      have HBk := hide (HBad.out k hlt)
      have hrl : ((c.drop (k * x)).take x).length = x := by simp; omega
      have HRl := hide hrl
      have HRc : Hid (∀ r, r < x → W1.cell? ⟨b, off + k * x + r, none⟩ = some (.int .i64 (((c.drop (k * x)).take x).getD r 0))) := fun r hr => by
        have := HCell.out (k * x + r) (by omega)
        rw [Nat.add_assoc, this]
        simp [List.getD_eq_getElem?_getD, hr, List.getElem?_drop]
      have HNext : Hid (P.addB ((c.drop (k * x)).take x) n = true → ∀ j, j < k + 1 → P.addB ((c.drop (j * x)).take x) n = true) := fun h j hj => by
        rcases Nat.lt_or_ge j k with h2 | h2
        · exact HAll.out j h2
        · obtain rfl : j = k := by omega
          exact h
      generalize (c.drop (k * x)).take x = row at *
      have j2 : (0 : Int) ≤ ((k * x : Nat) : Int) := by omega
      have j3 : ((k * x : Nat) : Int) ≤ ((k * x + x : Nat) : Int) := by omega
      have j4 : ((k * x + x : Nat) : Int) ≤ ((d * x : Nat) : Int) := by omega
      have j5 : ((k * x + x : Nat) : Int) ≤ (cap : Int) := by omega
      go_wp2
      go_loop [66, 4] (fun iv sv => ∃ (r : Nat) (m : Int), r ≤ x ∧ iv = .int .i64 r ∧ sv = .int .i64 m ∧ m = P.sumL (row.take r) ∧ (∀ y ∈ row.take r, 0 ≤ y) ∧ 0 ≤ m ∧ m ≤ n) (fun iv _ => x - (intOf iv).toNat)
      case atStart => exact ⟨0, 0, by omega, rfl, rfl, by simp [P.sumL], by simp, by decide, h0⟩
      case round =>
        obtain ⟨r, m, hr, rfl, rfl, hm, hpos, hm0, hm1⟩ := hrel
        have HM := hide hm
        have HP := hide hpos
        clear hm hpos
        by_cases hrt : r < x
        · have hrr : r < row.length := by rw [HRl.out]; exact hrt
          have hc := HRc.out r hrt
          have i0 : (0 : Int) ≤ (r : Int) := by omega
          have i1 : (r : Int) < (x : Int) := by omega
          have HS := hide (P.sumL_take row r hrr)
          have HN := hide (P.nonneg_take row r hrr HP.out)
          have HMem := hide (P.mem_getD row r hrr)
          have HSp := hide (P.sum_split row (r + 1))
          generalize row.getD r 0 = y at *
          have w1 : IntKind.i64.wrap (n - m) = n - m := by rw [IntKind.wrap_i64]; omega
          by_cases hy0 : y < 0
          · have t0 : decide (y < 0) = true := by simpa using hy0
            have HF : Hid (P.chkS ⟨d, x, c, n⟩ = 4) := HBk.out (P.addB_no fun h => by have := h.1 y HMem.out; omega)
            clear hy0
            go_wp2
            go_ret
            exact ⟨by rw [HF.out]; rfl, HB.out⟩
          · have t0 : decide (y < 0) = false := by simpa using hy0
            by_cases hy1 : n - m < y
            · have t1 : decide (n - m < y) = true := by simpa using hy1
              have HF : Hid (P.chkS ⟨d, x, c, n⟩ = 4) := HBk.out (P.addB_no fun h => by
                have h2 := HSp.out h.1
                have h3 := HS.out
                have h4 := HM.out
                have h5 := h.2
                omega)
              clear hy0 hy1
              go_wp2
              go_ret
              exact ⟨by rw [HF.out]; rfl, HB.out⟩
            · have t1 : decide (n - m < y) = false := by simpa using hy1
              have w2 : IntKind.i64.wrap (m + y) = m + y := by rw [IntKind.wrap_i64]; omega
              have HX : Hid (m + y = P.sumL (row.take (r + 1))) := by show _ = _; rw [HS.out, ← HM.out]
              have HX2 : Hid (0 ≤ m + y ∧ m + y ≤ n) := by constructor <;> omega
              have HN2 := hide (HN.out (by omega))
              clear hy0 hy1
              go_wp2
              go_round
              case rel => exact ⟨r + 1, m + y, by omega, by go_num, rfl, HX.out, HN2.out, HX2.out.1, HX2.out.2⟩
              case measure => simp [intOf]; omega
        · obtain rfl : r = x := by omega
          have td : decide ((r : Int) < (r : Int)) = false := by simp
          rw [List.take_of_length_le (by rw [HRl.out]; exact Nat.le_refl _)] at HM HP
          by_cases hmn : m = n
          · have t0 : (m != n) = false := by rw [bne_eq_false_iff_eq]; exact hmn
            have HA : Hid (P.addB row n = true) := P.addB_yes HP.out (by rw [← HM.out]; exact hmn)
            have HNx := hide (HNext.out HA.out)
            clear hmn
            go_wp2
            go_round
            case rel => exact ⟨k + 1, by omega, by go_num, HNx.out⟩
            case measure => simp [intOf]; omega
          · have t0 : (m != n) = true := by rw [bne_iff_ne]; exact hmn
            have HF : Hid (P.chkS ⟨d, r, c, n⟩ = 4) := HBk.out (P.addB_no fun h => hmn (by rw [HM.out]; exact h.2))
            clear hmn
            go_wp2
            go_ret
            exact ⟨by rw [HF.out]; rfl, HB.out⟩
    · obtain rfl : k = d := by omega
      have hdd : decide ((k : Int) < (k : Int)) = false := by simp
      have HF := hide (HGood.out HAll.out)
      go_wp2
      go_ret
      exact ⟨by rw [HF.out]; rfl, HB.out⟩
theorem Fault_any (cv : Value) (s : P.Rw) (w : World) (hr : RowK .i64 w cv s.c) :
    Calls Try.prog 13 #[aggS cv s] w fun e w' => e = .returned (.int .i64 (P.chkS s)) ∧ Below w.heap.size w w' := by
  have bad : (P.arB s.d s.w = false ∨ (P.arB s.d s.w = true ∧ (s.c.length : Int) ≠ s.d * s.w) ∨ (P.arB s.d s.w = true ∧ (s.c.length : Int) = s.d * s.w ∧ s.n < 0) ∨ (P.arB s.d s.w = true ∧ (s.c.length : Int) = s.d * s.w ∧ 0 ≤ s.n ∧ 1152921504606846976 < s.n)) → Calls Try.prog 13 #[aggS cv s] w fun e w' => e = .returned (.int .i64 (P.chkS s)) ∧ Below w.heap.size w w' := fun h => by
    have hno : ¬ P.GoodR s := fun hg => by
      obtain ⟨g1, g2, g3, g4, _⟩ := P.parts_of hg
      rcases h with h | ⟨_, h⟩ | ⟨_, _, h⟩ | ⟨_, _, _, h⟩
      · rw [h] at g1; cases g1
      · exact h g2
      · omega
      · omega
    rw [P.chkS_no hno]
    exact Fault_early cv s w hr h
  cases ha : P.arB s.d s.w with
  | false => exact bad (.inl ha)
  | true =>
    by_cases hl : (s.c.length : Int) = s.d * s.w
    · by_cases h0 : s.n < 0
      · exact bad (.inr (.inr (.inl ⟨ha, hl, h0⟩)))
      · by_cases h1 : 1152921504606846976 < s.n
        · exact bad (.inr (.inr (.inr ⟨ha, hl, by omega, h1⟩)))
        · clear bad
          unfold P.arB at ha
          simp at ha
          obtain ⟨d, x, c, n⟩ := s
          simp only at *
          obtain ⟨D, rfl⟩ : ∃ D : Nat, d = D := ⟨d.toNat, by omega⟩
          obtain ⟨X, rfl⟩ : ∃ X : Nat, x = X := ⟨x.toNat, by omega⟩
          have hlen : c.length = D * X := by exact_mod_cast hl
          have hpos : 0 < D * X := Nat.mul_pos (by omega) (by omega)
          obtain ⟨a, cap, rfl, ⟨hc1, hc2, _⟩, hcase⟩ := hr
          rcases hcase with h | ⟨b, off, rfl, hbs, hcell⟩
          · rw [h] at hlen; simp at hlen; omega
          · have := Fault_rows b off cap D X c n w (by omega) (by omega) (by omega) (by omega) hlen (by omega) (by omega) (by omega) hc2 hbs (fun j hj => hcell j (by omega))
            rw [← hlen] at this
            exact this
    · exact bad (.inr (.inl ⟨ha, hl⟩))
end Go.Proofs.Ytenfpkokogfdaaa
