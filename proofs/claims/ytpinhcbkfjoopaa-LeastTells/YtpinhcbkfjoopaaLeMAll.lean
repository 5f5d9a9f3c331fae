/- Several texts in one. -/
import Derived.Test.YtpinhcbkfjoopaaLeAAll
/- What Merge answers. -/
namespace Go.Proofs.Ytpinhcbkfjoopaa
open Go.RowKit
set_option linter.unusedVariables false
set_option linter.unusedSimpArgs false
namespace P
/-- How a call of Merge goes wrong. -/
def MgBad (a b : Ls) (E : Int) : Prop := (¬ LsGood a ∧ E = 4) ∨ (LsGood a ∧ ¬ LsGood b ∧ E = 4) ∨ (LsGood a ∧ LsGood b ∧ a.k ≠ b.k ∧ E = 1)
end P
/-- What Merge lays out at first. -/
abbrev mgW (w : World) (va vb : Value) (a b : P.Ls) : World := ((w.alloc (.cells #[.int .i64 a.k, va] 24)).alloc (.cells #[.int .i64 b.k, vb] 24)).alloc (.cells #[.int .i64 0, .slice none 0 0] 24)
structure MgAt (w : World) (va vb : Value) (a b : P.Ls) (W : World) : Prop where
  x : BoxL W w.heap.size va a
  y : BoxL W (w.heap.size + 1) vb b
  z : BoxL W (w.heap.size + 2) (.slice none 0 0) z0
  bel : Below w.heap.size w W
theorem MgAt.new (w : World) (va vb : Value) (a b : P.Ls) : MgAt w va vb a b (mgW w va vb a b) := by
  have hx := ((BoxL.new w va a).below ((Below.refl _ _).alloc (Nat.le_refl _) (.cells #[.int .i64 b.k, vb] 24))).below ((Below.refl _ _).alloc (Nat.le_refl _) (.cells #[.int .i64 0, .slice none 0 0] 24))
  have hy := (BoxL.new (w.alloc (.cells #[.int .i64 a.k, va] 24)) vb b).below ((Below.refl _ _).alloc (Nat.le_refl _) (.cells #[.int .i64 0, .slice none 0 0] 24))
  have hz := zero_new ((w.alloc (.cells #[.int .i64 a.k, va] 24)).alloc (.cells #[.int .i64 b.k, vb] 24))
  have hs1 : (w.alloc (.cells #[.int .i64 a.k, va] 24)).heap.size = w.heap.size + 1 := by simp
  have hs2 : ((w.alloc (.cells #[.int .i64 a.k, va] 24)).alloc (.cells #[.int .i64 b.k, vb] 24)).heap.size = w.heap.size + 2 := by simp
  rw [hs1] at hy
  rw [hs2] at hz
  exact ⟨hx, hy, hz, (((Below.refl w.heap.size w).alloc (Nat.le_refl _) _).alloc (by simp) _).alloc (by simp; omega) _⟩
theorem MgAt.below {w : World} {va vb : Value} {a b : P.Ls} {W W' : World} (h : MgAt w va vb a b W) (hb : Below W.heap.size W W') : MgAt w va vb a b W' := ⟨h.x.below hb, h.y.below hb, h.z.below hb, Below.next h.bel hb⟩
theorem MgAt.dr {w : World} {va vb : Value} {a b : P.Ls} {W : World} (h : MgAt w va vb a b W) : MgAt w va vb a b W.drew := ⟨h.x, h.y, h.z, below_dr h.bel⟩
set_option maxRecDepth 100000 in
set_option maxHeartbeats 4000000 in
theorem Merge_bad (va vb : Value) (a b : P.Ls) (E : Int) (w : World) (hra : RowK .u64 w va a.h) (hrb : RowK .u64 w vb b.h) (hE : P.MgBad a b E) :
    Calls Try.prog 10 #[aggL va a, aggL vb b] w fun e w' => e = .returned (.tuple #[zeroL, .int .i64 E]) ∧ Below w.heap.size w w' := by
  have HCa := hide (fun wx (h : Below w.heap.size w wx) => Check_any va a wx (hra.below h (Nat.le_refl _)))
  have HCb := hide (fun wx (h : Below w.heap.size w wx) => Check_any vb b wx (hrb.below h (Nat.le_refl _)))
  have HM := hide (MgAt.new w va vb a b)
  obtain ⟨aa, ac, rfl⟩ := hra.shp
  obtain ⟨ba, bc, rfl⟩ := hrb.shp
  clear hra hrb
  go_enter Try.func10, Try.ntmps10
  go_upto_region 1 with fail
  simp only [mgW] at HM
  generalize ((w.alloc (.cells #[.int .i64 a.k, .slice aa a.h.length ac] 24)).alloc (.cells #[.int .i64 b.k, .slice ba b.h.length bc] 24)).alloc (.cells #[.int .i64 0, .slice none 0 0] 24) = W1 at *
  have HC1 := hide (HCa.out W1 HM.out.bel)
  obtain ⟨x0, x1⟩ := HM.out.x.cells
  obtain ⟨y0, y1⟩ := HM.out.y.cells
  rcases hE with ⟨h1, rfl⟩ | h
  · rw [P.chkL_no h1] at HC1
    clear h1 HCa HCb
    go_wp2_with fail
    refine HC1.out.mono ?_
    rintro e w2 ⟨rfl, hb2⟩
    have HM2 := hide (HM.out.below hb2)
    clear HM HC1 hb2 x0 x1 y0 y1
    have hz := HM2.out.z
    have u0 := hz.unfrozen 0; have u1 := hz.unfrozen 1
    obtain ⟨c0, c1⟩ := hz.cells
    have y6 := hz.all (.slice none 0 0) z0
    have b6 := hide (Below.setS' HM2.out.bel (g := w.heap.size + 2) (by omega) (.slice none 0 0) z0)
    obtain ⟨r0, r1⟩ := y6.cells
    clear y6 hz HM2
    go_wp2
    refine bodyPost_ret (w := setS w2 (w.heap.size + 2) (.slice none 0 0) z0) (v := .tuple #[zeroL, .int .i64 4]) ?_ rfl ⟨rfl, b6.out⟩
    generalize setS w2 (w.heap.size + 2) (.slice none 0 0) z0 = wf at *
    simp [z0] at r0 r1
    simp [results, Try.results10, go_sem, r0, r1]
  · have hga : P.LsGood a := by rcases h with h | h <;> exact h.1
    rw [P.chkL_ok hga] at HC1
    clear HCa
    go_upto_region 4 with (go_at_call 14; go_must (refine HC1.out.mono ?_); rintro e w2 ⟨rfl, hb2⟩)
    have HM2 := hide (HM.out.below hb2)
    clear HM HC1 hb2 x0 x1 y0 y1
    have HC2 := hide (HCb.out w2 HM2.out.bel)
    obtain ⟨x0, x1⟩ := HM2.out.x.cells
    obtain ⟨y0, y1⟩ := HM2.out.y.cells
    clear HCb
    rcases h with ⟨_, h1, rfl⟩ | h
    · rw [P.chkL_no h1] at HC2
      clear h1
      go_wp2_with fail
      refine HC2.out.mono ?_
      rintro e w3 ⟨rfl, hb3⟩
      have HM3 := hide (HM2.out.below hb3)
      clear HM2 HC2 hb3 x0 x1 y0 y1
      have hz := HM3.out.z
      have u0 := hz.unfrozen 0; have u1 := hz.unfrozen 1
      obtain ⟨c0, c1⟩ := hz.cells
      have y6 := hz.all (.slice none 0 0) z0
      have b6 := hide (Below.setS' HM3.out.bel (g := w.heap.size + 2) (by omega) (.slice none 0 0) z0)
      obtain ⟨r0, r1⟩ := y6.cells
      clear y6 hz HM3
      go_wp2
      refine bodyPost_ret (w := setS w3 (w.heap.size + 2) (.slice none 0 0) z0) (v := .tuple #[zeroL, .int .i64 4]) ?_ rfl ⟨rfl, b6.out⟩
      generalize setS w3 (w.heap.size + 2) (.slice none 0 0) z0 = wf at *
      simp [z0] at r0 r1
      simp [results, Try.results10, go_sem, r0, r1]
    · obtain ⟨_, hgb, hne, rfl⟩ := h
      rw [P.chkL_ok hgb] at HC2
      have hd : (a.k != b.k) = true := by simpa using hne
      clear hgb hne
      go_upto_region 7 with (go_at_call 14; go_must (refine HC2.out.mono ?_); rintro e w3 ⟨rfl, hb3⟩)
      have HM3 := hide (HM2.out.below hb3)
      clear HM2 HC2 hb3 x0 x1 y0 y1
      obtain ⟨x0, x1⟩ := HM3.out.x.cells
      obtain ⟨y0, y1⟩ := HM3.out.y.cells
      have hz := HM3.out.z
      have u0 := hz.unfrozen 0; have u1 := hz.unfrozen 1
      obtain ⟨c0, c1⟩ := hz.cells
      have y6 := hz.all (.slice none 0 0) z0
      have b6 := hide (Below.setS' HM3.out.bel (g := w.heap.size + 2) (by omega) (.slice none 0 0) z0)
      obtain ⟨r0, r1⟩ := y6.cells
      clear y6 hz HM3
      go_wp2
      refine bodyPost_ret (w := setS w3 (w.heap.size + 2) (.slice none 0 0) z0) (v := .tuple #[zeroL, .int .i64 1]) ?_ rfl ⟨rfl, b6.out⟩
      generalize setS w3 (w.heap.size + 2) (.slice none 0 0) z0 = wf at *
      simp [z0] at r0 r1
      simp [results, Try.results10, go_sem, r0, r1]
set_option maxRecDepth 100000 in
set_option maxHeartbeats 8000000 in
theorem Merge_ok (va vb : Value) (k : Nat) (a b : List Int) (w : World) (hra : RowK .u64 w va a) (hrb : RowK .u64 w vb b) (hga : P.LsGood ⟨k, a⟩) (hgb : P.LsGood ⟨k, b⟩) :
    Calls Try.prog 10 #[aggL va ⟨k, a⟩, aggL vb ⟨k, b⟩] w fun e w' => ∃ v, e = .returned (.tuple #[aggL v ⟨k, lstU k a b⟩, .int .i64 0]) ∧ OwnU w' w.heap.size v (lstU k a b) ∧ Below w.heap.size w w' := by
  have hk := hga.k64
  have hl := hga.len
  have hl2 := hgb.len
  simp only at hk hl hl2
  have HCa := hide (fun wx (h : Below w.heap.size w wx) => Check_any va ⟨k, a⟩ wx (hra.below h (Nat.le_refl _)))
  have HCb := hide (fun wx (h : Below w.heap.size w wx) => Check_any vb ⟨k, b⟩ wx (hrb.below h (Nat.le_refl _)))
  rw [P.chkL_ok hga] at HCa
  rw [P.chkL_ok hgb] at HCb
  have HM := hide (MgAt.new w va vb ⟨k, a⟩ ⟨k, b⟩)
  have HL := hide (fun wx (h1 : Below w.heap.size w wx) => leastOf_any k va vb a b wx (by omega) (hra.below h1 (Nat.le_refl _)) (hrb.below h1 (Nat.le_refl _)) (by omega))
  generalize lstU k a b = R at *
  obtain ⟨aa, ac, rfl⟩ := hra.shp
  obtain ⟨ba, bc, rfl⟩ := hrb.shp
  have hd : ((k : Int) != (k : Int)) = false := by simp
  clear hra hrb hga hgb hk hl hl2
  go_enter Try.func10, Try.ntmps10
  go_upto_region 1 with fail
  simp only [mgW] at HM
  generalize ((w.alloc (.cells #[.int .i64 (k : Int), .slice aa a.length ac] 24)).alloc (.cells #[.int .i64 (k : Int), .slice ba b.length bc] 24)).alloc (.cells #[.int .i64 0, .slice none 0 0] 24) = W1 at *
  have HC1 := hide (HCa.out W1 HM.out.bel)
  obtain ⟨x0, x1⟩ := HM.out.x.cells
  obtain ⟨y0, y1⟩ := HM.out.y.cells
  clear HCa
  go_upto_region 4 with (go_at_call 14; go_must (refine HC1.out.mono ?_); rintro e w2 ⟨rfl, hb2⟩)
  have HM2 := hide (HM.out.below hb2)
  clear HM HC1 hb2 x0 x1 y0 y1
  have HC2 := hide (HCb.out w2 HM2.out.bel)
  obtain ⟨x0, x1⟩ := HM2.out.x.cells
  obtain ⟨y0, y1⟩ := HM2.out.y.cells
  clear HCb
  go_upto_region 7 with (go_at_call 14; go_must (refine HC2.out.mono ?_); rintro e w3 ⟨rfl, hb3⟩)
  have HM3 := hide (HM2.out.below hb3)
  clear HM2 HC2 hb3 x0 x1 y0 y1
  obtain ⟨x0, x1⟩ := HM3.out.x.cells
  obtain ⟨y0, y1⟩ := HM3.out.y.cells
  simp only at x0 y0
  go_upto_region 9 with fail
  have d0 : w3.drew.cell? ⟨w.heap.size, 0, none⟩ = some (.int .i64 k) := x0
  have d1 : w3.drew.cell? ⟨w.heap.size, 1, none⟩ = some (.slice aa a.length ac) := x1
  have f1 : w3.drew.cell? ⟨w.heap.size + 1, 1, none⟩ = some (.slice ba b.length bc) := y1
  have HM4 : Hid (MgAt w (.slice aa a.length ac) (.slice ba b.length bc) ⟨k, a⟩ ⟨k, b⟩ w3.drew) := hide HM3.out.dr
  have HL2 := hide (HL.out w3.drew HM4.out.bel)
  have hsz : w.heap.size ≤ w3.drew.heap.size := HM4.out.bel.size
  clear x0 x1 y0 y1 HM3 HL
  have N0 : ¬ w.heap.size = w.heap.size + 1 + 1 := by omega
  have N1 : ¬ w.heap.size + 1 = w.heap.size + 1 + 1 := by omega
  have N2 : ¬ w.heap.size + 1 + 1 = w.heap.size := by omega
  have N3 : ¬ w.heap.size + 1 + 1 = w.heap.size + 1 := by omega
  go_region_held3 (fun wx => wx.cell? ⟨w.heap.size, 0, none⟩ = some (.int .i64 k) ∧ wx.cell? ⟨w.heap.size, 1, none⟩ = some (.slice aa a.length ac) ∧ wx.cell? ⟨w.heap.size + 1, 1, none⟩ = some (.slice ba b.length bc)) (first | (refine ⟨?_, ?_, ?_⟩ <;> with_reducible assumption) | (simp only [World.cell?_setCell_far, ne_eq, N0, N1, N2, N3, not_false_eq_true, q0, q1, q2, and_self]; done) | go_keep) (first
    | (go_at_call 30; refine HL2.out.mono ?_; rintro e w4 ⟨v4, rfl, own4, hb4⟩; obtain ⟨v4a, v4c, rfl⟩ := own4.shape; have q0 := keep_cell d0 hb4; have q1 := keep_cell d1 hb4; have q2 := keep_cell f1 hb4; have HM5 := hide (HM4.out.below hb4); have hz := HM5.out.z; have u0 := hz.unfrozen 0; have u1 := hz.unfrozen 1; obtain ⟨c0, c1⟩ := hz.cells))
  have hg := setS_grown w4 (w.heap.size + 2) (.slice v4a R.length v4c) ⟨k, R⟩
  have y6 := hz.all (.slice v4a R.length v4c) ⟨k, R⟩
  have o6 := hide ((own4.box hz hg).base hsz)
  have b6 := hide (Below.setS' HM5.out.bel (g := w.heap.size + 2) (by omega) (.slice v4a R.length v4c) ⟨k, R⟩)
  obtain ⟨r0, r1⟩ := y6.cells
  clear y6 hg hz own4 hb4 HL2 HM4 HM5
  go_wp2
  refine bodyPost_ret (w := setS w4 (w.heap.size + 2) (.slice v4a R.length v4c) ⟨k, R⟩) (v := .tuple #[aggL (.slice v4a R.length v4c) ⟨k, R⟩, .int .i64 0]) ?_ rfl ⟨_, rfl, o6.out, b6.out⟩
  generalize setS w4 (w.heap.size + 2) (.slice v4a R.length v4c) ⟨k, R⟩ = wf at *
  simp [results, Try.results10, go_sem, r0, r1]
end Go.Proofs.Ytpinhcbkfjoopaa
