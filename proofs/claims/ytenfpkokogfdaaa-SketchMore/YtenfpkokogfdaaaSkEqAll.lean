/- Several texts in one. -/
import Derived.Test.YtenfpkokogfdaaaSkEAll
import Derived.Deep.QuietTactic
import Derived.BigQuiet
/- What slices.Equal, sameSketch, sketches and odd answer. -/
namespace Go.Proofs.Ytenfpkokogfdaaa
open Go.RowKit
set_option linter.unusedVariables false
set_option maxHeartbeats 1000000 in
/-- Two rows of the same numbers are equal. -/
theorem equalI_yes (u v : Value) (l : List Int) (w : World) (h : RowK .i64 w u l) (h' : RowK .i64 w v l) : Calls Try.prog 34 #[u, v] w fun e w' => e = .returned (.bool true) ∧ ∃ q, w' = w.drewN q := by
  obtain ⟨a, cap, rfl, ⟨hlc, hmax, hnn⟩, hcase⟩ := h
  obtain ⟨a2, cap2, rfl, ⟨hlc2, hmax2, hnn2⟩, hcase2⟩ := h'
  unfold maxLen at hmax hmax2
  go_enter Try.func34, Try.ntmps34
  go_wp2
  go_loopw [13] (fun i wr => ∃ j : Nat, j ≤ l.length ∧ i = .int .i64 j ∧ ∃ q, wr = w.drewN q) (fun i _ => l.length - (intOf i).toNat)
  case atStart => exact ⟨0, by omega, rfl, 0, rfl⟩
  case round =>
    obtain ⟨j, hj, rfl, hq⟩ := hrel
    have HQ := hide hq
    have hcw : ∀ (p : Addr), wr.cell? p = w.cell? p := by obtain ⟨q, rfl⟩ := hq; exact fun _ => rfl
    clear hq
    by_cases hlt : j < l.length
    · rcases hcase with h | ⟨b, off, rfl, hbs, hcell⟩
      · rw [h] at hlt; simp at hlt
      rcases hcase2 with h | ⟨b2, off2, rfl, hbs2, hcell2⟩
      · rw [h] at hlt; simp at hlt
      have j0 : (0 : Int) ≤ (j : Int) := by omega
      have j1 : (j : Int) < (l.length : Int) := by omega
      have q0 := fun n => (show (wr.drewN n).cell? ⟨b, off + j, none⟩ = _ from (hcw _).trans (hcell j (by omega)))
      have q1 := fun n => (show (wr.drewN n).cell? ⟨b2, off2 + j, none⟩ = _ from (hcw _).trans (hcell2 j (by omega)))
      generalize l.getD j 0 = y at *
      have hd : (y != y) = false := by simp
      clear hcell hcell2 hcw
      go_wp2
      go_quiet (fail)
      go_wp2
      go_roundw
      case rel => exact ⟨j + 1, by omega, by go_num, dn_ex HQ.out _⟩
      case measure => simp [intOf]; omega
    · have hd2 : decide ((j : Int) < (l.length : Int)) = false := by simp; omega
      obtain rfl : j = l.length := by omega
      go_wp2
      go_ret
      exact ⟨rfl, HQ.out⟩
/-- Two values of the same sketch are the same. -/
theorem sameSketch_yes (u v : Value) (S : P.Sk) (w : World) (h : RowK .i64 w u S.c) (h' : RowK .i64 w v S.c) : Calls Try.prog 24 #[aggK u S, aggK v S] w fun e w' => e = .returned (.bool true) ∧ Below w.heap.size w w' := by
  have HB := hide (((Below.refl w.heap.size w).alloc (Nat.le_refl _) (.cells #[.int .i64 S.d, .int .i64 S.w, u, .int .i64 S.n] 24)).alloc (by simp) (.cells #[.int .i64 S.d, .int .i64 S.w, v, .int .i64 S.n] 24))
  have HE := hide (equalI_yes u v S.c _ (h.below HB.out (Nat.le_refl _)) (h'.below HB.out (Nat.le_refl _)))
  obtain ⟨a, c, rfl⟩ := h.shp
  obtain ⟨a2, c2, rfl⟩ := h'.shp
  clear h h'
  have d0 : ((S.d : Int) == (S.d : Int)) = true := by simp
  have d1 : ((S.w : Int) == (S.w : Int)) = true := by simp
  have d2 : (S.n == S.n) = true := by simp
  go_enter Try.func24, Try.ntmps24
  go_wp2_with (go_at_call 34; go_must (refine HE.out.mono ?_); rintro e w1 ⟨rfl, q, rfl⟩)
  go_ret
  exact ⟨rfl, below_dn HB.out q⟩
theorem sketches_any (w : World) : Calls Try.prog 18 #[] w fun e w' => e = .returned (.bool true) ∧ Below w.heap.size w w' := by
  have HE : Hid (Calls Try.prog 9 #[.int .i64 2, .int .i64 3] w fun e w' => ∃ a c, e = .returned (.tuple #[.agg #[.int .i64 2, .int .i64 3, .slice a 6 c, .int .i64 0], .int .i64 0]) ∧ Below w.heap.size w w') := by
    refine (Empty_ok 2 3 w (by decide) (by decide) (by decide) (by decide)).mono ?_
    rintro e w1 ⟨v, rfl, own, hb⟩
    obtain ⟨a, c, rfl⟩ := own.shape
    exact ⟨a, c, rfl, hb⟩
  go_enter Try.func18, Try.ntmps18
  go_wp2_with (go_at_call 9; go_must (refine HE.out.mono ?_); rintro e w1 ⟨a, c, rfl, hb⟩)
  go_ret
  exact ⟨rfl, hb.alloc hb.size _⟩
theorem odd_yes (d x : Int) (w : World) (h : P.arB d x = false) : Calls Try.prog 20 #[.int .i64 d, .int .i64 x] w fun e w' => e = .returned (.bool true) ∧ w' = w := by
  unfold P.arB at h
  rw [decide_eq_false_iff_not] at h
  by_cases h1 : d < 1
  · have d1 : decide (d < 1) = true := by simpa using h1
    clear h
    go_enter Try.func20, Try.ntmps20
    go_wp2
    go_ret
    exact ⟨rfl, rfl⟩
  · have d1 : decide (d < 1) = false := by simpa using h1
    by_cases h2 : 8 < d
    · have d2 : decide (8 < d) = true := by simpa using h2
      clear h
      go_enter Try.func20, Try.ntmps20
      go_wp2
      go_ret
      exact ⟨rfl, rfl⟩
    · have d2 : decide (8 < d) = false := by simpa using h2
      by_cases h3 : x < 1
      · have d3 : decide (x < 1) = true := by simpa using h3
        clear h
        go_enter Try.func20, Try.ntmps20
        go_wp2
        go_ret
        exact ⟨rfl, rfl⟩
      · have d3 : decide (x < 1) = false := by simpa using h3
        have h4 : 200 < x := by omega
        have d4 : decide (200 < x) = true := by simpa using h4
        clear h
        go_enter Try.func20, Try.ntmps20
        go_wp2
        go_ret
        exact ⟨rfl, rfl⟩
end Go.Proofs.Ytenfpkokogfdaaa
