/- Several texts in one. -/
import Derived.Test.YtenfpkokogfdaaaRefSfAll
import Derived.Test.YtenfpkokogfdaaaRefSkAll
import Derived.Test.YtenfpkokogfdaaaSkMbAll
/- SketchMerges where the answer is an error. -/
namespace Go.Proofs.Ytenfpkokogfdaaa
open Go.RowKit
set_option linter.unusedVariables false
set_option maxRecDepth 100000 in
set_option maxHeartbeats 4000000 in
theorem merges_bad (va vb : Value) (a b : P.Rw) (E : Int) (w : World) (hra : RowK .i64 w va a.c) (hrb : RowK .i64 w vb b.c) (hia : RwI a) (hib : RwI b) (hE : P.MgBad a b E) :
    Calls Try.prog 4 #[aggS va a, aggS vb b] w fun e w' => e = .returned (.bool true) ∧ Below w.heap.size w w' := by
  have HB := hide (((Below.refl w.heap.size w).alloc (Nat.le_refl _) (.cells #[.int .i64 a.d, .int .i64 a.w, va, .int .i64 a.n] 24)).alloc (by simp) (.cells #[.int .i64 b.d, .int .i64 b.w, vb, .int .i64 b.n] 24))
  have HM := hide (fun wx (h : Below w.heap.size w wx) => Merge_bad va vb a b E wx (hra.below h (Nat.le_refl _)) (hrb.below h (Nat.le_refl _)) hia hib hE)
  have HFa := hide (fun wx (h : Below w.heap.size w wx) => Fault_any va a wx (hra.below h (Nat.le_refl _)))
  have HFb := hide (fun wx (h : Below w.heap.size w wx) => Fault_any vb b wx (hrb.below h (Nat.le_refl _)))
  have HZ := hide (fun wx => SameZero wx)
  have hs1 : (w.alloc (.cells #[.int .i64 a.d, .int .i64 a.w, va, .int .i64 a.n] 24)).heap.size = w.heap.size + 1 := by simp
  have HX : Hid (((w.alloc (.cells #[.int .i64 a.d, .int .i64 a.w, va, .int .i64 a.n] 24)).alloc (.cells #[.int .i64 b.d, .int .i64 b.w, vb, .int .i64 b.n] 24)).heap[w.heap.size]? = some (.cells #[.int .i64 a.d, .int .i64 a.w, va, .int .i64 a.n] 24 (0, 0))) := by
    show _ = _
    have hb : Below (w.alloc (.cells #[.int .i64 a.d, .int .i64 a.w, va, .int .i64 a.n] 24)).heap.size (w.alloc (.cells #[.int .i64 a.d, .int .i64 a.w, va, .int .i64 a.n] 24)) ((w.alloc (.cells #[.int .i64 a.d, .int .i64 a.w, va, .int .i64 a.n] 24)).alloc (.cells #[.int .i64 b.d, .int .i64 b.w, vb, .int .i64 b.n] 24)) := (Below.refl _ _).alloc (Nat.le_refl _) _
    exact (hb.block w.heap.size (by simp)).trans (heap_alloc_new w _)
  have HY : Hid (((w.alloc (.cells #[.int .i64 a.d, .int .i64 a.w, va, .int .i64 a.n] 24)).alloc (.cells #[.int .i64 b.d, .int .i64 b.w, vb, .int .i64 b.n] 24)).heap[w.heap.size + 1]? = some (.cells #[.int .i64 b.d, .int .i64 b.w, vb, .int .i64 b.n] 24 (0, 0))) := by
    show _ = _
    have h0 := heap_alloc_new (w.alloc (.cells #[.int .i64 a.d, .int .i64 a.w, va, .int .i64 a.n] 24)) (.cells #[.int .i64 b.d, .int .i64 b.w, vb, .int .i64 b.n] 24)
    rw [hs1] at h0; exact h0
  obtain ⟨av, acap, rfl⟩ := hra.shp
  obtain ⟨bv, bcap, rfl⟩ := hrb.shp
  clear hra hrb hia hib hs1
  go_enter Try.func4, Try.ntmps4
  go_upto_region 1 with fail
  generalize (w.alloc (.cells #[.int .i64 a.d, .int .i64 a.w, .slice av a.c.length acap, .int .i64 a.n] 24)).alloc (.cells #[.int .i64 b.d, .int .i64 b.w, .slice bv b.c.length bcap, .int .i64 b.n] 24) = W1 at *
  have xb := HX.out
  have yb := HY.out
  have gx : W1.cell? ⟨w.heap.size, 0, none⟩ = some (.int .i64 a.d) ∧ W1.cell? ⟨w.heap.size, 1, none⟩ = some (.int .i64 a.w) ∧ W1.cell? ⟨w.heap.size, 2, none⟩ = some (.slice av a.c.length acap) ∧ W1.cell? ⟨w.heap.size, 3, none⟩ = some (.int .i64 a.n) := by simp [World.cell?, xb]
  have gy : W1.cell? ⟨w.heap.size + 1, 0, none⟩ = some (.int .i64 b.d) ∧ W1.cell? ⟨w.heap.size + 1, 1, none⟩ = some (.int .i64 b.w) ∧ W1.cell? ⟨w.heap.size + 1, 2, none⟩ = some (.slice bv b.c.length bcap) ∧ W1.cell? ⟨w.heap.size + 1, 3, none⟩ = some (.int .i64 b.n) := by simp [World.cell?, yb]
  clear xb yb HX HY
  obtain ⟨x0, x1, x2, x3⟩ := gx
  obtain ⟨y0, y1, y2, y3⟩ := gy
  have HM1 := hide (HM.out W1 HB.out)
  clear HM
  go_upto_region 2 with (go_at_call 17; go_must (refine HM1.out.mono ?_); rintro e w2 ⟨rfl, hb2⟩)
  have hb3 := hb2.alloc hb2.size (.cells #[.int .i64 0, .int .i64 0, .slice none 0 0, .int .i64 0] 24)
  have HB2 := hide (Below.next HB.out hb3)
  have HX2 := hide (zero_new w2)
  replace x0 := keep_cell x0 hb3; replace x1 := keep_cell x1 hb3; replace x2 := keep_cell x2 hb3; replace x3 := keep_cell x3 hb3
  replace y0 := keep_cell y0 hb3; replace y1 := keep_cell y1 hb3; replace y2 := keep_cell y2 hb3; replace y3 := keep_cell y3 hb3
  clear HB hb2 hb3 HM1
  generalize w2.alloc (.cells #[.int .i64 0, .int .i64 0, .slice none 0 0, .int .i64 0] 24) = W2 at *
  obtain ⟨z0, z1, z2, z3⟩ := HX2.out.cells
  simp [Go.Proofs.Ytenfpkokogfdaaa.z0] at z0 z1 z2 z3
  have HF1 := hide (HFa.out W2 HB2.out)
  clear HFa HX2
  rcases hE with ⟨h1, rfl⟩ | h
  · rw [P.chkS_no h1] at HF1
    clear h1 HFb
    go_wp2_with first
      | (go_at_call 13; go_must (refine HF1.out.mono ?_); rintro e w3 ⟨rfl, hb3⟩; have HB3 := hide (Below.next HB2.out hb3); replace z0 := keep_cell z0 hb3; replace z1 := keep_cell z1 hb3; replace z2 := keep_cell z2 hb3; replace z3 := keep_cell z3 hb3; clear hb3)
      | (go_at_call 12; go_must (refine (HZ.out _).mono ?_); rintro e w4 ⟨rfl, hb4⟩; have HB4 := hide (Below.next HB3.out hb4))
    go_ret
    exact ⟨rfl, HB4.out⟩
  · have hga : P.GoodR a := by rcases h with h | h | h | h <;> exact h.1
    rw [P.chkS_ok hga] at HF1
    go_upto_region 4 with (go_at_call 13; go_must (refine HF1.out.mono ?_); rintro e w3 ⟨rfl, hb3⟩)
    have HB3 := hide (Below.next HB2.out hb3)
    replace x0 := keep_cell x0 hb3; replace x1 := keep_cell x1 hb3; replace x2 := keep_cell x2 hb3; replace x3 := keep_cell x3 hb3
    replace y0 := keep_cell y0 hb3; replace y1 := keep_cell y1 hb3; replace y2 := keep_cell y2 hb3; replace y3 := keep_cell y3 hb3
    replace z0 := keep_cell z0 hb3; replace z1 := keep_cell z1 hb3; replace z2 := keep_cell z2 hb3; replace z3 := keep_cell z3 hb3
    have HF2 := hide (HFb.out w3 HB3.out)
    clear HB2 HF1 hb3 HFb
    rcases h with ⟨_, h1, rfl⟩ | h
    · rw [P.chkS_no h1] at HF2
      clear h1
      go_wp2_with first
        | (go_at_call 13; go_must (refine HF2.out.mono ?_); rintro e w4 ⟨rfl, hb4⟩; have HB4 := hide (Below.next HB3.out hb4); replace z0 := keep_cell z0 hb4; replace z1 := keep_cell z1 hb4; replace z2 := keep_cell z2 hb4; replace z3 := keep_cell z3 hb4; clear hb4)
        | (go_at_call 12; go_must (refine (HZ.out _).mono ?_); rintro e w5 ⟨rfl, hb5⟩; have HB5 := hide (Below.next HB4.out hb5))
      go_ret
      exact ⟨rfl, HB5.out⟩
    · have hgb : P.GoodR b := by rcases h with h | h | h <;> exact h.2.1
      rw [P.chkS_ok hgb] at HF2
      obtain ⟨na0, na1⟩ := P.good_n hga
      obtain ⟨nb0, nb1⟩ := P.good_n hgb
      have e1 : IntKind.i64.wrap (1152921504606846976 - b.n) = 1152921504606846976 - b.n := by rw [IntKind.wrap_i64]; omega
      go_upto_region 5 with (go_at_call 13; go_must (refine HF2.out.mono ?_); rintro e w4 ⟨rfl, hb4⟩)
      have HB4 := hide (Below.next HB3.out hb4)
      replace x0 := keep_cell x0 hb4; replace x1 := keep_cell x1 hb4; replace x2 := keep_cell x2 hb4; replace x3 := keep_cell x3 hb4
      replace y0 := keep_cell y0 hb4; replace y1 := keep_cell y1 hb4; replace y2 := keep_cell y2 hb4; replace y3 := keep_cell y3 hb4
      replace z0 := keep_cell z0 hb4; replace z1 := keep_cell z1 hb4; replace z2 := keep_cell z2 hb4; replace z3 := keep_cell z3 hb4
      clear HB3 HF2 hb4
      rcases h with ⟨_, _, h1, rfl⟩ | ⟨_, _, h1, h2, rfl⟩ | ⟨_, _, h1, h2, h3, rfl⟩
      · have d1 : (a.d != b.d) = true := by rw [bne_iff_ne]; exact h1
        clear h1
        go_wp2_with (go_at_call 12; go_must (refine (HZ.out _).mono ?_); rintro e w5 ⟨rfl, hb5⟩; have HB5 := hide (Below.next HB4.out hb5))
        go_ret
        exact ⟨rfl, HB5.out⟩
      · have d1 : (a.d != b.d) = false := by rw [bne_eq_false_iff_eq]; exact h1
        have d2 : (a.w != b.w) = true := by rw [bne_iff_ne]; exact h2
        clear h1 h2
        go_wp2_with (go_at_call 12; go_must (refine (HZ.out _).mono ?_); rintro e w5 ⟨rfl, hb5⟩; have HB5 := hide (Below.next HB4.out hb5))
        go_ret
        exact ⟨rfl, HB5.out⟩
      · have d1 : (a.d != b.d) = false := by rw [bne_eq_false_iff_eq]; exact h1
        have d2 : (a.w != b.w) = false := by rw [bne_eq_false_iff_eq]; exact h2
        have d3 : decide (1152921504606846976 - b.n < a.n) = true := by simp; omega
        clear h1 h2 h3
        go_wp2_with (go_at_call 12; go_must (refine (HZ.out _).mono ?_); rintro e w5 ⟨rfl, hb5⟩; have HB5 := hide (Below.next HB4.out hb5))
        go_ret
        exact ⟨rfl, HB5.out⟩
end Go.Proofs.Ytenfpkokogfdaaa
