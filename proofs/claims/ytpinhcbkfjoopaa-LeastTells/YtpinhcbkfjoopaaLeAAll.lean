/- Several texts in one. -/
import Derived.Test.YtpinhcbkfjoopaaLeLAll
import Derived.Test.YtpinhcbkfjoopaaHofAll
/- What Empty and Add answer. -/
namespace Go.Proofs.Ytpinhcbkfjoopaa
open Go.RowKit
set_option linter.unusedVariables false
theorem Empty_ok (k : Int) (w : World) (h : 2 ≤ k ∧ k ≤ 64) :
    Calls Try.prog 8 #[.int .i64 k] w fun e w' => e = .returned (.tuple #[aggL (.slice none 0 0) ⟨k, []⟩, .int .i64 0]) ∧ Below w.heap.size w w' := by
  have HI := hide (fun wx => isK_any k wx)
  rw [decide_eq_true h] at HI
  have HB := hide ((Below.refl w.heap.size w).alloc (Nat.le_refl _) (.cells #[.int .i64 0, .slice none 0 0] 24))
  have hz := zero_new w
  have u0 := hz.unfrozen 0; have u1 := hz.unfrozen 1
  obtain ⟨c0, c1⟩ := hz.cells
  have y6 := hz.all (.slice none 0 0) ⟨k, []⟩
  have b6 := hide (Below.setS' HB.out (Nat.le_refl _) (.slice none 0 0) ⟨k, []⟩)
  obtain ⟨r0, r1⟩ := y6.cells
  clear y6 hz HB
  go_enter Try.func8, Try.ntmps8
  go_upto_region 1 with fail
  generalize w.alloc (.cells #[.int .i64 0, .slice none 0 0] 24) = W at *
  go_wp2_with (go_at_call 29; go_must (refine (HI.out _).mono ?_); rintro e w1 ⟨rfl, rfl⟩)
  refine bodyPost_ret (w := setS w1 w.heap.size (.slice none 0 0) ⟨k, []⟩) (v := .tuple #[aggL (.slice none 0 0) ⟨k, []⟩, .int .i64 0]) ?_ rfl ⟨rfl, b6.out⟩
  generalize setS w1 w.heap.size (.slice none 0 0) ⟨k, []⟩ = wf at *
  simp [results, Try.results8, go_sem, r0, r1]
theorem Empty_bad (k : Int) (w : World) (h : ¬ (2 ≤ k ∧ k ≤ 64)) :
    Calls Try.prog 8 #[.int .i64 k] w fun e w' => e = .returned (.tuple #[zeroL, .int .i64 1]) ∧ Below w.heap.size w w' := by
  have HI := hide (fun wx => isK_any k wx)
  rw [decide_eq_false h] at HI
  have HB := hide ((Below.refl w.heap.size w).alloc (Nat.le_refl _) (.cells #[.int .i64 0, .slice none 0 0] 24))
  have hz := zero_new w
  have u0 := hz.unfrozen 0; have u1 := hz.unfrozen 1
  obtain ⟨c0, c1⟩ := hz.cells
  have y6 := hz.all (.slice none 0 0) z0
  have b6 := hide (Below.setS' HB.out (Nat.le_refl _) (.slice none 0 0) z0)
  obtain ⟨r0, r1⟩ := y6.cells
  clear y6 hz HB
  go_enter Try.func8, Try.ntmps8
  go_upto_region 1 with fail
  generalize w.alloc (.cells #[.int .i64 0, .slice none 0 0] 24) = W at *
  go_wp2_with (go_at_call 29; go_must (refine (HI.out _).mono ?_); rintro e w1 ⟨rfl, rfl⟩)
  refine bodyPost_ret (w := setS w1 w.heap.size (.slice none 0 0) z0) (v := .tuple #[zeroL, .int .i64 1]) ?_ rfl ⟨rfl, b6.out⟩
  generalize setS w1 w.heap.size (.slice none 0 0) z0 = wf at *
  simp [z0] at r0 r1
  simp [results, Try.results8, go_sem, r0, r1]
set_option maxRecDepth 100000 in
set_option maxHeartbeats 4000000 in
theorem Add_bad (lv bv : Value) (s : P.Ls) (w : World) (hr : RowK .u64 w lv s.h) (hg : ¬ P.LsGood s) :
    Calls Try.prog 9 #[aggL lv s, bv] w fun e w' => e = .returned (.tuple #[zeroL, .int .i64 4]) ∧ Below w.heap.size w w' := by
  have HB := hide (((Below.refl w.heap.size w).alloc (Nat.le_refl _) (.cells #[.int .i64 s.k, lv] 24)).alloc (by simp) (.cells #[.int .i64 0, .slice none 0 0] 24))
  have HC := hide (Check_any lv s _ (hr.below HB.out (Nat.le_refl _)))
  rw [P.chkL_no hg] at HC
  have hX := (BoxL.new w lv s).below ((Below.refl _ _).alloc (Nat.le_refl _) (.cells #[.int .i64 0, .slice none 0 0] 24))
  have HZ := hide (zero_new (w.alloc (.cells #[.int .i64 s.k, lv] 24)))
  have hs : (w.alloc (.cells #[.int .i64 s.k, lv] 24)).heap.size = w.heap.size + 1 := by simp
  rw [hs] at HZ
  obtain ⟨x0, x1⟩ := hX.cells
  obtain ⟨la, lc, rfl⟩ := hr.shp
  simp only [cellsL] at x0 x1
  clear hr hX hs hg
  go_enter Try.func9, Try.ntmps9
  go_upto_region 1 with fail
  generalize ((w.alloc (.cells #[.int .i64 s.k, .slice la s.h.length lc] 24)).alloc (.cells #[.int .i64 0, .slice none 0 0] 24)) = W at *
  go_wp2_with fail
  refine HC.out.mono ?_
  rintro e w2 ⟨rfl, hb2⟩
  have hz := HZ.out.below hb2
  have HB2 := hide (Below.next HB.out hb2)
  clear HB HZ hb2 HC x0 x1
  have u0 := hz.unfrozen 0; have u1 := hz.unfrozen 1
  obtain ⟨c0, c1⟩ := hz.cells
  have y6 := hz.all (.slice none 0 0) z0
  have b6 := hide (Below.setS' HB2.out (g := w.heap.size + 1) (by omega) (.slice none 0 0) z0)
  obtain ⟨r0, r1⟩ := y6.cells
  clear y6 hz HB2
  go_wp2
  refine bodyPost_ret (w := setS w2 (w.heap.size + 1) (.slice none 0 0) z0) (v := .tuple #[zeroL, .int .i64 4]) ?_ rfl ⟨rfl, b6.out⟩
  generalize setS w2 (w.heap.size + 1) (.slice none 0 0) z0 = wf at *
  simp [z0] at r0 r1
  simp [results, Try.results9, go_sem, r0, r1]
/-- One number in a new block. -/
theorem row_oneU (w : World) (x : Int) (t : TypeId) : RowK .u64 (w.alloc (.cells #[.int .u64 x] t)) (.slice (some ⟨w.heap.size, 0, none⟩) 1 1) [x] := by
  refine ⟨_, 1, rfl, ⟨by simp, by decide, fun h => by cases h⟩, .inr ⟨w.heap.size, 0, rfl, by simp, fun j hj => ?_⟩⟩
  match j, hj with
  | 0, _ => simp
set_option maxRecDepth 100000 in
set_option maxHeartbeats 8000000 in
theorem Add_ok (lv bv : Value) (k : Nat) (l : List Int) (bs : List Int) (w : World) (hr : RowK .u64 w lv l) (hg : P.LsGood ⟨k, l⟩) (hb : RowB w bv bs) (hbt : Byt bs) :
    Calls Try.prog 9 #[aggL lv ⟨k, l⟩, bv] w fun e w' => ∃ v, e = .returned (.tuple #[aggL v ⟨k, lstU k l [(P.hof 0 bs : Int)]⟩, .int .i64 0]) ∧ OwnU w' w.heap.size v (lstU k l [(P.hof 0 bs : Int)]) ∧ Below w.heap.size w w' := by
  have hk := hg.k64
  have hl := hg.len
  simp only at hk hl
  have HB := hide (((Below.refl w.heap.size w).alloc (Nat.le_refl _) (.cells #[.int .i64 k, lv] 24)).alloc (by simp) (.cells #[.int .i64 0, .slice none 0 0] 24))
  have HC := hide (Check_any lv ⟨k, l⟩ _ (hr.below HB.out (Nat.le_refl _)))
  rw [P.chkL_ok hg] at HC
  have hX := (BoxL.new w lv ⟨k, l⟩).below ((Below.refl _ _).alloc (Nat.le_refl _) (.cells #[.int .i64 0, .slice none 0 0] 24))
  have HZ := hide (zero_new (w.alloc (.cells #[.int .i64 k, lv] 24)))
  have hs : (w.alloc (.cells #[.int .i64 k, lv] 24)).heap.size = w.heap.size + 1 := by simp
  rw [hs] at HZ
  obtain ⟨x0, x1⟩ := hX.cells
  have HH := hide (fun wx (h : Below w.heap.size w wx) => (show Calls Try.prog 25 #[.int .u64 0, bv] wx fun e w' => e = .returned (.int .u64 (P.hof 0 bs : Nat)) ∧ w' = wx from of_any 0 bv bs wx (by decide) (RowK.below hb h (Nat.le_refl _)) hbt))
  obtain ⟨h, hh⟩ : ∃ h : Int, (P.hof 0 bs : Int) = h := ⟨_, rfl⟩
  rw [hh] at HH ⊢
  have HL := hide (fun wx v1 (h1 : Below w.heap.size w wx) (r1 : RowK .u64 wx v1 [h]) => leastOf_any k lv v1 l [h] wx (by omega) (hr.below h1 (Nat.le_refl _)) r1 (by simp; omega))
  generalize lstU k l [h] = R at *
  obtain ⟨la, lc, rfl⟩ := hr.shp
  simp only [cellsL] at x0 x1
  clear hr hX hs hg hb hbt hk hl hh
  go_enter Try.func9, Try.ntmps9
  go_upto_region 1 with fail
  generalize ((w.alloc (.cells #[.int .i64 k, .slice la l.length lc] 24)).alloc (.cells #[.int .i64 0, .slice none 0 0] 24)) = W at *
  go_upto_region 4 with (go_at_call 14; go_must (refine HC.out.mono ?_); rintro e w2 ⟨rfl, hb2⟩)
  have hz := HZ.out.below hb2
  replace x0 := keep_cell x0 hb2
  replace x1 := keep_cell x1 hb2
  have HB2 := hide (Below.next HB.out hb2)
  have HZ2 := hide hz
  clear HB HZ hb2 HC hz
  have y0 : w2.drew.cell? ⟨w.heap.size, 0, none⟩ = some (.int .i64 k) := x0
  have y1 : w2.drew.cell? ⟨w.heap.size, 1, none⟩ = some (.slice la l.length lc) := x1
  have hz2 : BoxL w2.drew (w.heap.size + 1) (.slice none 0 0) z0 := HZ2.out
  have HB3 := hide (below_dr HB2.out)
  have HH2 := hide (HH.out w2.drew HB3.out)
  have hb4 := (Below.refl w2.drew.heap.size w2.drew).alloc (Nat.le_refl _) (.cells #[.int .u64 h] 31)
  have HL2 : Hid (Calls Try.prog 30 #[.int .i64 k, .slice la l.length lc, .slice (some ⟨w2.heap.size, 0, none⟩) 1 1] (w2.alloc (.cells #[.int .u64 h] 31)).drew fun e w' => ∃ v, e = .returned v ∧ OwnU w' (w2.heap.size + 1) v R ∧ Below (w2.alloc (.cells #[.int .u64 h] 31)).drew.heap.size (w2.alloc (.cells #[.int .u64 h] 31)).drew w') := hide (by
    have := HL.out _ _ (Below.next HB3.out hb4) (row_oneU w2.drew h 31)
    have e1 : (w2.drew.alloc (.cells #[.int .u64 h] 31)).heap.size = w2.heap.size + 1 := by simp
    rw [e1] at this
    have e2 : (w2.alloc (.cells #[.int .u64 h] 31)).drew.heap.size = w2.heap.size + 1 := by simp
    rw [e2]
    exact this)
  have y0' : (w2.alloc (.cells #[.int .u64 h] 31)).drew.cell? ⟨w.heap.size, 0, none⟩ = some (.int .i64 k) := keep_cell y0 hb4
  have y1' : (w2.alloc (.cells #[.int .u64 h] 31)).drew.cell? ⟨w.heap.size, 1, none⟩ = some (.slice la l.length lc) := keep_cell y1 hb4
  have HZ4 : Hid (BoxL (w2.alloc (.cells #[.int .u64 h] 31)).drew (w.heap.size + 1) (.slice none 0 0) z0) := hide (hz2.below hb4)
  have HB4 : Hid (Below w.heap.size w (w2.alloc (.cells #[.int .u64 h] 31)).drew) := hide (Below.next HB3.out hb4)
  have hsz4 : w.heap.size ≤ w2.heap.size := HB2.out.size
  clear hb4 HH HL HZ2 HB2 x0 x1 hz2
  go_region_held3 (fun wx => wx.cell? ⟨w.heap.size, 0, none⟩ = some (.int .i64 k) ∧ wx.cell? ⟨w.heap.size, 1, none⟩ = some (.slice la l.length lc)) (first | (refine ⟨?_, ?_⟩ <;> with_reducible assumption) | go_keep) (first
    | (go_at_call 25; refine HH2.out.mono ?_; rintro e w3 ⟨rfl, rfl⟩)
    | (go_at_call 30; refine HL2.out.mono ?_; rintro e w4 ⟨v4, rfl, own4, hb4⟩; obtain ⟨va, vc, rfl⟩ := own4.shape; have q0 := keep_cell y0' hb4; have q1 := keep_cell y1' hb4; have hz := HZ4.out.below hb4; have u0 := hz.unfrozen 0; have u1 := hz.unfrozen 1; obtain ⟨c0, c1⟩ := hz.cells))
  have hg := setS_grown w4 (w.heap.size + 1) (.slice va R.length vc) ⟨k, R⟩
  have y6 := hz.all (.slice va R.length vc) ⟨k, R⟩
  have o6 := hide ((own4.box hz hg).base (show w.heap.size ≤ _ by omega))
  have b6 := hide (Below.setS' (Below.next HB4.out hb4) (g := w.heap.size + 1) (by omega) (.slice va R.length vc) ⟨k, R⟩)
  obtain ⟨r0, r1⟩ := y6.cells
  clear y6 hg hz own4 hb4 HL2 HH2 HZ4 HB4
  go_wp2
  refine bodyPost_ret (w := setS w4 (w.heap.size + 1) (.slice va R.length vc) ⟨k, R⟩) (v := .tuple #[aggL (.slice va R.length vc) ⟨k, R⟩, .int .i64 0]) ?_ rfl ⟨_, rfl, o6.out, b6.out⟩
  generalize setS w4 (w.heap.size + 1) (.slice va R.length vc) ⟨k, R⟩ = wf at *
  simp [results, Try.results9, go_sem, r0, r1]
end Go.Proofs.Ytpinhcbkfjoopaa
