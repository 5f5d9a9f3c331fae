/- Several texts in one. -/
import Derived.Test.YtcaidfffmllfeaaHeavyUAll
import Derived.Test.YtcaidfffmllfeaaHeavyHAll
/- What Empty, Add and Merge answer. -/
namespace Go.Proofs.Ytcaidfffmllfeaa
open Go.RowKit
set_option linter.unusedVariables false
abbrev empH (k : Int) : Value := .agg #[.int .i64 k, .slice none 0 0, .int .i64 0, .int .i64 0]
theorem Empty_ok (k : Int) (w : World) (h : 1 ≤ k ∧ k ≤ 64) : Calls Try.prog 9 #[.int .i64 k] w fun e w' => e = .returned (.tuple #[empH k, .int .i64 0]) ∧ Below w.heap.size w w' := by
  have HK := hide (fun wx => isK_any k wx)
  rw [decide_eq_true h] at HK
  clear h
  go_enter Try.func9, Try.ntmps9
  go_wp2_with (go_at_call 26; go_must (refine (HK.out _).mono ?_); rintro e w1 ⟨rfl, rfl⟩)
  refine bodyPost_ret (v := .tuple #[empH k, .int .i64 0]) (by simp [results, Try.results9, go_sem]) rfl ⟨rfl, ?_⟩
  exact (Below.refl _ w).alloc (Nat.le_refl _) _
theorem Empty_bad (k : Int) (w : World) (h : ¬ (1 ≤ k ∧ k ≤ 64)) : Calls Try.prog 9 #[.int .i64 k] w fun e w' => e = .returned (.tuple #[zeroH, .int .i64 1]) ∧ Below w.heap.size w w' := by
  have HK := hide (fun wx => isK_any k wx)
  rw [decide_eq_false h] at HK
  clear h
  go_enter Try.func9, Try.ntmps9
  go_wp2_with (go_at_call 26; go_must (refine (HK.out _).mono ?_); rintro e w1 ⟨rfl, rfl⟩)
  refine bodyPost_ret (v := .tuple #[zeroH, .int .i64 1]) (by simp [results, Try.results9, go_sem]) rfl ⟨rfl, ?_⟩
  exact (Below.refl _ w).alloc (Nat.le_refl _) _
theorem tallies_any (w : World) : Calls Try.prog 19 #[] w fun e w' => e = .returned (.bool true) ∧ Below w.heap.size w w' := by
  have HE := hide (Empty_ok 4 w (by decide))
  go_enter Try.func19, Try.ntmps19
  go_wp2_with (go_at_call 9; go_must (refine HE.out.mono ?_); rintro e w1 ⟨rfl, hb⟩)
  go_ret
  exact ⟨rfl, hb.alloc hb.size _⟩
namespace P
/-- A tally of one key alone. -/
def one (k : Int) (key : ByteArray) : Hv := ⟨k, [(key, 1)], 1, 0⟩
theorem one_good {k : Int} {key : ByteArray} (h1 : 1 ≤ k) (h2 : k ≤ 64) (hk : key.size ≤ 40) : Good (one k key) := by
  refine ⟨h1, h2, by simpa [one] using h1, ⟨fun x hx => ?_, by simp [one]⟩, by simp [one], by simp [one], by simp [one], by simp [one], by simp [one, tot]⟩
  simp [one] at hx; subst hx
  exact ⟨hk, by simp, by simp⟩
/-- A key more. -/
def adH (s : Hv) (key : ByteArray) : Hv := uni s (one s.k key)
theorem two_one {s : Hv} {key : ByteArray} (h : Good s) (hk : key.size ≤ 40) (hn : s.n ≠ 1000000000) : Two s (one s.k key) :=
  ⟨h, one_good h.k1 h.k2 hk, rfl, by have := h.n1; show s.n + 1 ≤ _; omega⟩
theorem adH_good {s : Hv} {key : ByteArray} (h : Good s) (hk : key.size ≤ 40) (hn : s.n ≠ 1000000000) : Good (adH s key) := (two_one h hk hn).good
open Classical in
/-- The error of a key that is added. -/
noncomputable def adE (s : Hv) (key : ByteArray) : Int := if ¬ Good s then 4 else if 40 < key.size ∨ s.n = 1000000000 then 2 else 0
end P
theorem box_zero (w : World) (o : Obj) : BoxH ((w.alloc o).alloc (.cells #[.int .i64 0, .slice none 0 0, .int .i64 0, .int .i64 0] 24)) (w.heap.size + 1) (.slice none 0 0) z0 := by
  have := zero_new (w.alloc o)
  simpa using this
theorem box_old {w : World} {v : Value} {s : P.Hv} (o : Obj) : BoxH ((w.alloc (.cells #[.int .i64 s.k, v, .int .i64 s.n, .int .i64 s.off] 24)).alloc o) w.heap.size v s :=
  (BoxH.new w v s).below ((Below.refl _ _).alloc (Nat.le_refl _) _)
set_option maxRecDepth 100000 in
set_option maxHeartbeats 2000000 in
theorem Add_bad (v : Value) (s : P.Hv) (key : ByteArray) (w : World) (hr : RowC w v s.l) (hi : HvI s) (hs : key.size ≤ 9223372036854775807) (E : Int) (hE : P.adE s key = E) (h0 : E ≠ 0) :
    Calls Try.prog 10 #[aggH v s, .string key] w fun e w' => e = .returned (.tuple #[zeroH, .int .i64 E]) ∧ Below w.heap.size w w' := by
  have HK := hide (fun wx (hb : Below w.heap.size w wx) => check_any v s wx (hr.below hb (Nat.le_refl _)) hi)
  have HB : Hid (Below w.heap.size w ((w.alloc (.cells #[.int .i64 s.k, v, .int .i64 s.n, .int .i64 s.off] 24)).alloc (.cells #[.int .i64 0, .slice none 0 0, .int .i64 0, .int .i64 0] 24))) := ((Below.refl _ w).alloc (Nat.le_refl _) _).alloc (by simp) _
  have HZ := hide (box_zero w (.cells #[.int .i64 s.k, v, .int .i64 s.n, .int .i64 s.off] 24))
  have HX := hide (box_old (w := w) (v := v) (s := s) (.cells #[.int .i64 0, .slice none 0 0, .int .i64 0, .int .i64 0] 24))
  have fin : ∀ (w1 : World) (E : Int), BoxH w1 (w.heap.size + 1) (.slice none 0 0) z0 → Below w.heap.size w w1 →
      BoxH (setH w1 (w.heap.size + 1) (.slice none 0 0) z0) (w.heap.size + 1) (.slice none 0 0) z0 ∧ Below w.heap.size w (setH w1 (w.heap.size + 1) (.slice none 0 0) z0) :=
    fun w1 E hz hb => ⟨hz.all _ z0, Below.setH' hb (by omega) _ _⟩
  have HF := hide fin
  clear hr hi fin
  by_cases hg : P.Good s
  · rw [P.chkH_ok hg] at HK
    have hE2 : E = 2 := by
      rw [← hE]; unfold P.adE; rw [if_neg (not_not_intro hg)]
      by_cases hc : 40 < key.size ∨ s.n = 1000000000
      · rw [if_pos hc]
      · exfalso; apply h0; rw [← hE]; unfold P.adE; rw [if_neg (not_not_intro hg), if_neg hc]
    have hc : 40 < key.size ∨ s.n = 1000000000 := Classical.byContradiction fun hc => h0 (by rw [← hE]; unfold P.adE; rw [if_neg (not_not_intro hg), if_neg hc])
    subst hE2
    clear hE h0 hg
    by_cases h1 : 40 < key.size
    · have hd1 : decide (40 < (key.size : Int)) = true := by simp; omega
      clear hc h1
      go_enter Try.func10, Try.ntmps10
      go_wp2_with (go_at_call 14; go_must (refine (HK.out _ HB.out).mono ?_); rintro e w1 ⟨rfl, hb1⟩; have z1 := HZ.out.below hb1; obtain ⟨c0, c1, c2, c3⟩ := z1.cells; have u0 := z1.unfrozen 0; have u1 := z1.unfrozen 1; have u2 := z1.unfrozen 2; have u3 := z1.unfrozen 3; have x1 := HX.out.below hb1; obtain ⟨d0, d1, d2, d3⟩ := x1.cells)
      obtain ⟨z2, b2⟩ := HF.out w1 2 z1 (Below.next HB.out hb1)
      obtain ⟨r0, r1, r2, r3⟩ := z2.cells
      refine bodyPost_ret (w := setH w1 (w.heap.size + 1) (.slice none 0 0) z0) (v := .tuple #[zeroH, .int .i64 2]) ?_ rfl ⟨rfl, b2⟩
      generalize setH w1 (w.heap.size + 1) (.slice none 0 0) z0 = wf at *
      simp only [z0] at r0 r1 r2 r3
      simp [results, Try.results10, go_sem, r0, r1, r2, r3]
    · have hd1 : decide (40 < (key.size : Int)) = false := by simp; omega
      have hd2 : (s.n == 1000000000) = true := by simpa using hc.resolve_left h1
      clear hc h1
      go_enter Try.func10, Try.ntmps10
      go_wp2_with (go_at_call 14; go_must (refine (HK.out _ HB.out).mono ?_); rintro e w1 ⟨rfl, hb1⟩; have z1 := HZ.out.below hb1; obtain ⟨c0, c1, c2, c3⟩ := z1.cells; have u0 := z1.unfrozen 0; have u1 := z1.unfrozen 1; have u2 := z1.unfrozen 2; have u3 := z1.unfrozen 3; have x1 := HX.out.below hb1; obtain ⟨d0, d1, d2, d3⟩ := x1.cells)
      obtain ⟨z2, b2⟩ := HF.out w1 2 z1 (Below.next HB.out hb1)
      obtain ⟨r0, r1, r2, r3⟩ := z2.cells
      refine bodyPost_ret (w := setH w1 (w.heap.size + 1) (.slice none 0 0) z0) (v := .tuple #[zeroH, .int .i64 2]) ?_ rfl ⟨rfl, b2⟩
      generalize setH w1 (w.heap.size + 1) (.slice none 0 0) z0 = wf at *
      simp only [z0] at r0 r1 r2 r3
      simp [results, Try.results10, go_sem, r0, r1, r2, r3]
  · rw [P.chkH_not hg] at HK
    have hE2 : E = 4 := by rw [← hE]; unfold P.adE; rw [if_pos hg]
    subst hE2
    clear hE h0 hg
    go_enter Try.func10, Try.ntmps10
    go_wp2_with (go_at_call 14; go_must (refine (HK.out _ HB.out).mono ?_); rintro e w1 ⟨rfl, hb1⟩; have z1 := HZ.out.below hb1; obtain ⟨c0, c1, c2, c3⟩ := z1.cells; have u0 := z1.unfrozen 0; have u1 := z1.unfrozen 1; have u2 := z1.unfrozen 2; have u3 := z1.unfrozen 3)
    obtain ⟨z2, b2⟩ := HF.out w1 4 z1 (Below.next HB.out hb1)
    obtain ⟨r0, r1, r2, r3⟩ := z2.cells
    refine bodyPost_ret (w := setH w1 (w.heap.size + 1) (.slice none 0 0) z0) (v := .tuple #[zeroH, .int .i64 4]) ?_ rfl ⟨rfl, b2⟩
    generalize setH w1 (w.heap.size + 1) (.slice none 0 0) z0 = wf at *
    simp only [z0] at r0 r1 r2 r3
    simp [results, Try.results10, go_sem, r0, r1, r2, r3]
set_option maxRecDepth 100000 in
set_option maxHeartbeats 2000000 in
theorem Add_ok (v : Value) (s : P.Hv) (key : ByteArray) (w : World) (hr : RowC w v s.l) (hi : HvI s) (hg : P.Good s) (hk : key.size ≤ 40) (hn : s.n ≠ 1000000000) :
    Calls Try.prog 10 #[aggH v s, .string key] w fun e w' => ∃ v', e = .returned (.tuple #[aggH v' (P.adH s key), .int .i64 0]) ∧ OwnC w' w.heap.size v' (P.adH s key).l ∧ Below w.heap.size w w' := by
  have HK := hide (fun wx (hb : Below w.heap.size w wx) => check_any v s wx (hr.below hb (Nat.le_refl _)) hi)
  rw [P.chkH_ok hg] at HK
  have HB : Hid (Below w.heap.size w ((w.alloc (.cells #[.int .i64 s.k, v, .int .i64 s.n, .int .i64 s.off] 24)).alloc (.cells #[.int .i64 0, .slice none 0 0, .int .i64 0, .int .i64 0] 24))) := ((Below.refl _ w).alloc (Nat.le_refl _) _).alloc (by simp) _
  have HZ := hide (box_zero w (.cells #[.int .i64 s.k, v, .int .i64 s.n, .int .i64 s.off] 24))
  have HX := hide (box_old (w := w) (v := v) (s := s) (.cells #[.int .i64 0, .slice none 0 0, .int .i64 0, .int .i64 0] 24))
  have HU := hide (fun wx (hb : Below w.heap.size w wx) vb (rb : RowC wx vb [(key, 1)]) => unite_any v vb s (P.one s.k key) wx (P.two_one hg hk hn) (hr.below hb (Nat.le_refl _)) rb)
  have hd1 : decide (40 < (key.size : Int)) = false := by simp; omega
  have hd2 : (s.n == 1000000000) = false := by simpa using hn
  have hR : Hid (P.adH s key = P.uni s (P.one s.k key)) := rfl
  obtain ⟨av, cv, e1⟩ := hr.shp
  rw [e1] at HK HB HZ HX HU ⊢
  generalize P.uni s (P.one s.k key) = R at *
  generalize P.adH s key = R2 at *
  clear hr hi hg hk hn e1
  go_enter Try.func10, Try.ntmps10
  go_wp2_with (first
    | (go_at_call 14; go_must (refine (HK.out _ HB.out).mono ?_); rintro e w1 ⟨rfl, hb1⟩; have z1 := HZ.out.below hb1; have x1 := HX.out.below hb1; obtain ⟨d0, d1, d2, d3⟩ := x1.cells; have HB1 := hide (Below.next HB.out hb1))
    | (go_at_call 27; go_must (refine (HU.out _ (HB1.out.alloc HB1.out.size _) _ (RowX.one ctC 2 w1 (key, 1) 50)).mono ?_); rintro e w3 ⟨v3, rfl, own3, hb3⟩; obtain ⟨a3, k3, hv3⟩ := own3.shp ctC_len; rw [hv3] at own3 ⊢; have z3 := (z1.below ((Below.refl _ w1).alloc (Nat.le_refl _) (.cells (ctC (key, 1)).toArray 50))).below hb3; obtain ⟨c0, c1, c2, c3⟩ := z3.cells; have u0 := z3.unfrozen 0; have u1 := z3.unfrozen 1; have u2 := z3.unfrozen 2; have u3 := z3.unfrozen 3; clear hv3))
  have hg := setH_grown w3 (w.heap.size + 1) (.slice a3 R.l.length k3) R
  have hz := z3.all (.slice a3 R.l.length k3) R
  have ho := own3.box z3 hg
  have hb := Below.setH' (Below.next (HB1.out.alloc HB1.out.size (.cells (ctC (key, 1)).toArray 50)) hb3) (g := w.heap.size + 1) (by omega) (.slice a3 R.l.length k3) R
  obtain ⟨r0, r1, r2, r3⟩ := hz.cells
  have hs1 := HB1.out.size
  refine bodyPost_ret (w := setH w3 (w.heap.size + 1) (.slice a3 R.l.length k3) R) (v := .tuple #[aggH (.slice a3 R.l.length k3) R, .int .i64 0]) ?_ rfl ⟨.slice a3 R.l.length k3, by rw [hR.out], by rw [hR.out]; exact ho.base (by simp; omega), hb⟩
  generalize setH w3 (w.heap.size + 1) (.slice a3 R.l.length k3) R = wf at *
  simp [results, Try.results10, go_sem, r0, r1, r2, r3]
end Go.Proofs.Ytcaidfffmllfeaa
