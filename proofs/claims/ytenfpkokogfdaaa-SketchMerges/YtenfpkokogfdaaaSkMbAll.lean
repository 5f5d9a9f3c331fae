/- Several texts in one. -/
import Derived.Test.YtenfpkokogfdaaaSkAdAll
/- What Merge answers where it answers an error. -/
namespace Go.Proofs.Ytenfpkokogfdaaa
open Go.RowKit
set_option linter.unusedVariables false
namespace P
theorem good_n {s : Rw} (h : GoodR s) : 0 ≤ s.n ∧ s.n ≤ 1152921504606846976 := (parts_of h).2.2.imp id (fun h => h.1)
/-- How a call of Merge goes wrong. -/
def MgBad (a b : Rw) (E : Int) : Prop :=
  (¬ GoodR a ∧ E = 4) ∨ (GoodR a ∧ ¬ GoodR b ∧ E = 4) ∨ (GoodR a ∧ GoodR b ∧ a.d ≠ b.d ∧ E = 1) ∨ (GoodR a ∧ GoodR b ∧ a.d = b.d ∧ a.w ≠ b.w ∧ E = 1) ∨ (GoodR a ∧ GoodR b ∧ a.d = b.d ∧ a.w = b.w ∧ 1152921504606846976 < a.n + b.n ∧ E = 2)
end P
set_option maxRecDepth 100000 in
set_option maxHeartbeats 2000000 in
theorem Merge_bad (va vb : Value) (a b : P.Rw) (E : Int) (w : World) (hra : RowK .i64 w va a.c) (hrb : RowK .i64 w vb b.c) (hia : RwI a) (hib : RwI b) (hE : P.MgBad a b E) :
    Calls Try.prog 17 #[aggS va a, aggS vb b] w fun e w' => e = .returned (.tuple #[zeroK, .int .i64 E]) ∧ Below w.heap.size w w' := by
  have HB := hide ((((Below.refl w.heap.size w).alloc (Nat.le_refl _) (.cells #[.int .i64 a.d, .int .i64 a.w, va, .int .i64 a.n] 24)).alloc (by simp) (.cells #[.int .i64 b.d, .int .i64 b.w, vb, .int .i64 b.n] 24)).alloc (by simp; omega) (.cells #[.int .i64 0, .int .i64 0, .slice none 0 0, .int .i64 0] 24))
  have HCa := hide (fun wx (h : Below w.heap.size w wx) => Check_any va a wx (hra.below h (Nat.le_refl _)) hia)
  have HCb := hide (fun wx (h : Below w.heap.size w wx) => Check_any vb b wx (hrb.below h (Nat.le_refl _)) hib)
  have hs1 : (w.alloc (.cells #[.int .i64 a.d, .int .i64 a.w, va, .int .i64 a.n] 24)).heap.size = w.heap.size + 1 := by simp
  have hs2 : ((w.alloc (.cells #[.int .i64 a.d, .int .i64 a.w, va, .int .i64 a.n] 24)).alloc (.cells #[.int .i64 b.d, .int .i64 b.w, vb, .int .i64 b.n] 24)).heap.size = w.heap.size + 2 := by simp
  have HZ := hide (zero_new ((w.alloc (.cells #[.int .i64 a.d, .int .i64 a.w, va, .int .i64 a.n] 24)).alloc (.cells #[.int .i64 b.d, .int .i64 b.w, vb, .int .i64 b.n] 24)))
  rw [hs2] at HZ
  have HX : Hid ((((w.alloc (.cells #[.int .i64 a.d, .int .i64 a.w, va, .int .i64 a.n] 24)).alloc (.cells #[.int .i64 b.d, .int .i64 b.w, vb, .int .i64 b.n] 24)).alloc (.cells #[.int .i64 0, .int .i64 0, .slice none 0 0, .int .i64 0] 24)).heap[w.heap.size]? = some (.cells #[.int .i64 a.d, .int .i64 a.w, va, .int .i64 a.n] 24 (0, 0))) := by
    show _ = _
    have h0 := heap_alloc_new w (.cells #[.int .i64 a.d, .int .i64 a.w, va, .int .i64 a.n] 24)
    have hb : Below (w.alloc (.cells #[.int .i64 a.d, .int .i64 a.w, va, .int .i64 a.n] 24)).heap.size (w.alloc (.cells #[.int .i64 a.d, .int .i64 a.w, va, .int .i64 a.n] 24)) (((w.alloc (.cells #[.int .i64 a.d, .int .i64 a.w, va, .int .i64 a.n] 24)).alloc (.cells #[.int .i64 b.d, .int .i64 b.w, vb, .int .i64 b.n] 24)).alloc (.cells #[.int .i64 0, .int .i64 0, .slice none 0 0, .int .i64 0] 24)) := ((Below.refl _ _).alloc (Nat.le_refl _) _).alloc (by simp) _
    exact (hb.block w.heap.size (by simp)).trans h0
  have HY : Hid ((((w.alloc (.cells #[.int .i64 a.d, .int .i64 a.w, va, .int .i64 a.n] 24)).alloc (.cells #[.int .i64 b.d, .int .i64 b.w, vb, .int .i64 b.n] 24)).alloc (.cells #[.int .i64 0, .int .i64 0, .slice none 0 0, .int .i64 0] 24)).heap[w.heap.size + 1]? = some (.cells #[.int .i64 b.d, .int .i64 b.w, vb, .int .i64 b.n] 24 (0, 0))) := by
    show _ = _
    have h0 := heap_alloc_new (w.alloc (.cells #[.int .i64 a.d, .int .i64 a.w, va, .int .i64 a.n] 24)) (.cells #[.int .i64 b.d, .int .i64 b.w, vb, .int .i64 b.n] 24)
    rw [hs1] at h0
    have hb := (Below.refl ((w.alloc (.cells #[.int .i64 a.d, .int .i64 a.w, va, .int .i64 a.n] 24)).alloc (.cells #[.int .i64 b.d, .int .i64 b.w, vb, .int .i64 b.n] 24)).heap.size _).alloc (Nat.le_refl _) (.cells #[.int .i64 0, .int .i64 0, .slice none 0 0, .int .i64 0] 24)
    exact (hb.block (w.heap.size + 1) (by simp)).trans h0
  obtain ⟨av, acap, rfl⟩ := hra.shp
  obtain ⟨bv, bcap, rfl⟩ := hrb.shp
  clear hra hrb hia hib hs1 hs2
  go_enter Try.func17, Try.ntmps17
  go_upto_region 1 with fail
  generalize ((w.alloc (.cells #[.int .i64 a.d, .int .i64 a.w, .slice av a.c.length acap, .int .i64 a.n] 24)).alloc (.cells #[.int .i64 b.d, .int .i64 b.w, .slice bv b.c.length bcap, .int .i64 b.n] 24)).alloc (.cells #[.int .i64 0, .int .i64 0, .slice none 0 0, .int .i64 0] 24) = W1 at *
  have xb := HX.out
  have yb := HY.out
  have gx : W1.cell? ⟨w.heap.size, 0, none⟩ = some (.int .i64 a.d) ∧ W1.cell? ⟨w.heap.size, 1, none⟩ = some (.int .i64 a.w) ∧ W1.cell? ⟨w.heap.size, 2, none⟩ = some (.slice av a.c.length acap) ∧ W1.cell? ⟨w.heap.size, 3, none⟩ = some (.int .i64 a.n) := by simp [World.cell?, xb]
  have gy : W1.cell? ⟨w.heap.size + 1, 0, none⟩ = some (.int .i64 b.d) ∧ W1.cell? ⟨w.heap.size + 1, 1, none⟩ = some (.int .i64 b.w) ∧ W1.cell? ⟨w.heap.size + 1, 2, none⟩ = some (.slice bv b.c.length bcap) ∧ W1.cell? ⟨w.heap.size + 1, 3, none⟩ = some (.int .i64 b.n) := by simp [World.cell?, yb]
  clear xb yb
  obtain ⟨x0, x1, x2, x3⟩ := gx
  obtain ⟨y0, y1, y2, y3⟩ := gy
  have HC1 := hide (HCa.out W1 HB.out)
  rcases hE with ⟨h1, rfl⟩ | h
  · rw [P.chkS_no h1] at HC1
    clear h1 HCa HCb HX HY
    go_wp2_with fail
    refine HC1.out.mono ?_
    rintro e w2 ⟨rfl, hb2⟩
    have hbx := HZ.out.below hb2
    have HB2 := hide (Below.next HB.out hb2)
    clear HB HC1 HZ hb2
    have u0 := hbx.unfrozen 0; have u1 := hbx.unfrozen 1; have u2 := hbx.unfrozen 2; have u3 := hbx.unfrozen 3
    obtain ⟨c0, c1, c2, c3⟩ := hbx.cells
    have y6 := hbx.all (.slice none 0 0) z0
    have b6 := hide (Below.setK' HB2.out (g := w.heap.size + 2) (by omega) (.slice none 0 0) z0)
    obtain ⟨r0, r1, r2, r3⟩ := y6.cells
    clear y6 hbx
    go_wp2
    refine bodyPost_ret (w := setK w2 (w.heap.size + 2) (.slice none 0 0) z0) (v := .tuple #[zeroK, .int .i64 4]) ?_ rfl ⟨rfl, b6.out⟩
    generalize setK w2 (w.heap.size + 2) (.slice none 0 0) z0 = wf at *
    simp [z0] at r0 r1 r2 r3
    simp [results, Try.results17, go_sem, r0, r1, r2, r3]
  · have hga : P.GoodR a := by rcases h with h | h | h | h <;> exact h.1
    rw [P.chkS_ok hga] at HC1
    clear HCa HX HY
    go_upto_region 4 with (go_at_call 14; go_must (refine HC1.out.mono ?_); rintro e w2 ⟨rfl, hb2⟩)
    have hz2 := HZ.out.below hb2
    have HB2 := hide (Below.next HB.out hb2)
    replace x0 := keep_cell x0 hb2; replace x1 := keep_cell x1 hb2; replace x2 := keep_cell x2 hb2; replace x3 := keep_cell x3 hb2
    replace y0 := keep_cell y0 hb2; replace y1 := keep_cell y1 hb2; replace y2 := keep_cell y2 hb2; replace y3 := keep_cell y3 hb2
    have HC2 := hide (HCb.out w2 HB2.out)
    have HZ2 := hide hz2
    clear HB HC1 HZ hb2 hz2 HCb
    rcases h with ⟨_, h1, rfl⟩ | h
    · rw [P.chkS_no h1] at HC2
      clear h1
      go_wp2_with fail
      refine HC2.out.mono ?_
      rintro e w3 ⟨rfl, hb2⟩
      have hbx := HZ2.out.below hb2
      have HB3 := hide (Below.next HB2.out hb2)
      clear HB2 HC2 HZ2 hb2
      have u0 := hbx.unfrozen 0; have u1 := hbx.unfrozen 1; have u2 := hbx.unfrozen 2; have u3 := hbx.unfrozen 3
      obtain ⟨c0, c1, c2, c3⟩ := hbx.cells
      have y6 := hbx.all (.slice none 0 0) z0
      have b6 := hide (Below.setK' HB3.out (g := w.heap.size + 2) (by omega) (.slice none 0 0) z0)
      obtain ⟨r0, r1, r2, r3⟩ := y6.cells
      clear y6 hbx
      go_wp2
      refine bodyPost_ret (w := setK w3 (w.heap.size + 2) (.slice none 0 0) z0) (v := .tuple #[zeroK, .int .i64 4]) ?_ rfl ⟨rfl, b6.out⟩
      generalize setK w3 (w.heap.size + 2) (.slice none 0 0) z0 = wf at *
      simp [z0] at r0 r1 r2 r3
      simp [results, Try.results17, go_sem, r0, r1, r2, r3]
    · have hgb : P.GoodR b := by rcases h with h | h | h <;> exact h.2.1
      rw [P.chkS_ok hgb] at HC2
      go_upto_region 7 with (go_at_call 14; go_must (refine HC2.out.mono ?_); rintro e w3 ⟨rfl, hb3⟩)
      have hbx := HZ2.out.below hb3
      have HB3 := hide (Below.next HB2.out hb3)
      replace x0 := keep_cell x0 hb3; replace x1 := keep_cell x1 hb3; replace x2 := keep_cell x2 hb3; replace x3 := keep_cell x3 hb3
      replace y0 := keep_cell y0 hb3; replace y1 := keep_cell y1 hb3; replace y2 := keep_cell y2 hb3; replace y3 := keep_cell y3 hb3
      clear HB2 HC2 HZ2 hb3
      have u0 := hbx.unfrozen 0; have u1 := hbx.unfrozen 1; have u2 := hbx.unfrozen 2; have u3 := hbx.unfrozen 3
      obtain ⟨c0, c1, c2, c3⟩ := hbx.cells
      have y6 := hbx.all (.slice none 0 0) z0
      have b6 := hide (Below.setK' HB3.out (g := w.heap.size + 2) (by omega) (.slice none 0 0) z0)
      obtain ⟨r0, r1, r2, r3⟩ := y6.cells
      clear y6 hbx
      obtain ⟨na0, na1⟩ := P.good_n hga
      obtain ⟨nb0, nb1⟩ := P.good_n hgb
      have e1 : IntKind.i64.wrap (a.n + b.n) = a.n + b.n := by rw [IntKind.wrap_i64]; omega
      rcases h with ⟨_, _, h1, rfl⟩ | ⟨_, _, h1, h2, rfl⟩ | ⟨_, _, h1, h2, h3, rfl⟩
      · have d1 : (a.d != b.d) = true := by rw [bne_iff_ne]; exact h1
        clear h1
        go_wp2
        refine bodyPost_ret (w := setK w3 (w.heap.size + 2) (.slice none 0 0) z0) (v := .tuple #[zeroK, .int .i64 1]) ?_ rfl ⟨rfl, b6.out⟩
        generalize setK w3 (w.heap.size + 2) (.slice none 0 0) z0 = wf at *
        simp [z0] at r0 r1 r2 r3
        simp [results, Try.results17, go_sem, r0, r1, r2, r3]
      · have d1 : (a.d != b.d) = false := by rw [bne_eq_false_iff_eq]; exact h1
        have d2 : (a.w != b.w) = true := by rw [bne_iff_ne]; exact h2
        clear h1 h2
        go_wp2
        refine bodyPost_ret (w := setK w3 (w.heap.size + 2) (.slice none 0 0) z0) (v := .tuple #[zeroK, .int .i64 1]) ?_ rfl ⟨rfl, b6.out⟩
        generalize setK w3 (w.heap.size + 2) (.slice none 0 0) z0 = wf at *
        simp [z0] at r0 r1 r2 r3
        simp [results, Try.results17, go_sem, r0, r1, r2, r3]
      · have d1 : (a.d != b.d) = false := by rw [bne_eq_false_iff_eq]; exact h1
        have d2 : (a.w != b.w) = false := by rw [bne_eq_false_iff_eq]; exact h2
        have d3 : decide (1152921504606846976 < a.n + b.n) = true := by simpa using h3
        clear h1 h2 h3
        go_wp2
        refine bodyPost_ret (w := setK w3 (w.heap.size + 2) (.slice none 0 0) z0) (v := .tuple #[zeroK, .int .i64 2]) ?_ rfl ⟨rfl, b6.out⟩
        generalize setK w3 (w.heap.size + 2) (.slice none 0 0) z0 = wf at *
        simp [z0] at r0 r1 r2 r3
        simp [results, Try.results17, go_sem, r0, r1, r2, r3]
end Go.Proofs.Ytenfpkokogfdaaa
