/- Several texts in one. -/
import Derived.Test.YtenfpkokogfdaaaSkCoAll
/- What Empty answers. -/
namespace Go.Proofs.Ytenfpkokogfdaaa
open Go.RowKit
set_option linter.unusedVariables false
/-- A row of noughts, just made. -/
theorem made_own (w : World) (base n : Nat) (hb : base ≤ w.heap.size) (hn : n ≤ 1600) : OwnI (w.alloc (.cells (madeCells #[.int .i64 0] n) 2)) base (.slice (some ⟨w.heap.size, 0, none⟩) n n) (List.replicate n 0) := by
  refine ⟨by simp, .inr ⟨w.heap.size, n, _, by simp, hb, heap_alloc_new w _, by simp, by unfold maxLen; omega, by simp [madeCells], ?_⟩⟩
  apply List.ext_getElem
  · simp [madeCells]
  · intro i h1 h2
    simp [madeCells, Nat.mod_one]
theorem Empty_bad (d x : Int) (w : World) (h : P.arB d x = false) :
    Calls Try.prog 9 #[.int .i64 d, .int .i64 x] w fun e w' => e = .returned (.tuple #[.agg #[.int .i64 0, .int .i64 0, .slice none 0 0, .int .i64 0], .int .i64 1]) ∧ Below w.heap.size w w' := by
  have HA := hide (areRows_any d x)
  rw [h] at HA
  clear h
  have HB := hide ((Below.refl w.heap.size w).alloc (Nat.le_refl _) (.cells #[.int .i64 0, .int .i64 0, .slice none 0 0, .int .i64 0] 24))
  go_enter Try.func9, Try.ntmps9
  go_wp2_with (go_at_call 25; go_must (refine (HA.out _).mono ?_); rintro e w1 ⟨rfl, rfl⟩)
  refine bodyPost_ret (v := .tuple #[.agg #[.int .i64 0, .int .i64 0, .slice none 0 0, .int .i64 0], .int .i64 1]) ?_ rfl ⟨rfl, HB.out⟩
  simp [results, Try.results9, go_sem]
set_option maxRecDepth 100000 in
theorem Empty_ok (d x : Nat) (w : World) (h1 : 1 ≤ d) (h2 : d ≤ 8) (h3 : 1 ≤ x) (h4 : x ≤ 200) :
    Calls Try.prog 9 #[.int .i64 d, .int .i64 x] w fun e w' => ∃ v, e = .returned (.tuple #[aggK v (P.skEmp d x), .int .i64 0]) ∧ OwnI w' w.heap.size v (P.skEmp d x).c ∧ Below w.heap.size w w' := by
  have HA := hide (areRows_any d x)
  have har : P.arB (d : Int) (x : Int) = true := by unfold P.arB; simp; omega
  rw [har] at HA
  clear har
  have hdx : d * x ≤ 1600 := Nat.mul_le_mul h2 h4
  have e1 : IntKind.i64.wrap ((d : Int) * (x : Int)) = ((d * x : Nat) : Int) := by
    rw [← Int.natCast_mul, IntKind.wrap_i64]
    generalize d * x = z at hdx
    omega
  have HZ := hide (zero_new w)
  have hr := run_make_row' (P := Try.prog) 22 2 (.int .i64 0) 8 Try.underlying22 Try.info2 rfl .i64 .i64 (d * x) (by omega) (by omega) (w.alloc (.cells #[.int .i64 0, .int .i64 0, .slice none 0 0, .int .i64 0] 24))
  have hown := made_own (w.alloc (.cells #[.int .i64 0, .int .i64 0, .slice none 0 0, .int .i64 0] 24)) w.heap.size (d * x) (by simp) hdx
  have HB := hide (((Below.refl w.heap.size w).alloc (Nat.le_refl _) (.cells #[.int .i64 0, .int .i64 0, .slice none 0 0, .int .i64 0] 24)).alloc (by simp) (.cells (madeCells #[.int .i64 0] (d * x)) 2))
  have hbx := HZ.out.below ((Below.refl (w.alloc (.cells #[.int .i64 0, .int .i64 0, .slice none 0 0, .int .i64 0] 24)).heap.size _).alloc (Nat.le_refl _) (.cells (madeCells #[.int .i64 0] (d * x)) 2))
  have hsz : (w.alloc (.cells #[.int .i64 0, .int .i64 0, .slice none 0 0, .int .i64 0] 24)).heap.size = w.heap.size + 1 := by simp
  rw [hsz] at hr hown
  have HE : Hid (P.skEmp d x = ⟨d, x, List.replicate (d * x) 0, 0⟩) := rfl
  rw [HE.out]
  have HZ2 : Hid (List.length (List.replicate (d * x) (0 : Int)) = d * x) := List.length_replicate
  generalize d * x = z at *
  generalize (w.alloc (.cells #[.int .i64 0, .int .i64 0, .slice none 0 0, .int .i64 0] 24)).alloc (.cells (madeCells #[.int .i64 0] z) 2) = W2 at *
  have u0 := hbx.unfrozen 0; have u1 := hbx.unfrozen 1; have u2 := hbx.unfrozen 2; have u3 := hbx.unfrozen 3
  obtain ⟨c0, c1, c2, c3⟩ := hbx.cells
  have y6 := hbx.all (.slice (some ⟨w.heap.size + 1, 0, none⟩) z z) ⟨d, x, List.replicate z 0, 0⟩
  have o6 := OwnI.box hown hbx (setK_grown W2 w.heap.size (.slice (some ⟨w.heap.size + 1, 0, none⟩) z z) ⟨d, x, List.replicate z 0, 0⟩)
  have b6 : Below w.heap.size w (setK W2 w.heap.size (.slice (some ⟨w.heap.size + 1, 0, none⟩) z z) ⟨d, x, List.replicate z 0, 0⟩) := Below.setK' HB.out (Nat.le_refl _) _ _
  obtain ⟨r0, r1, r2, r3⟩ := y6.cells
  have H6 := hide (And.intro o6 b6)
  clear o6 b6 hown hbx y6 HZ HB HE hsz HZ2
  go_enter Try.func9, Try.ntmps9
  go_wp2_with (go_at_call 25; go_must (refine (HA.out _).mono ?_); rintro e w1 ⟨rfl, rfl⟩)
  refine bodyPost_ret (w := setK W2 w.heap.size (.slice (some ⟨w.heap.size + 1, 0, none⟩) z z) ⟨d, x, List.replicate z 0, 0⟩) (v := .tuple #[.agg #[.int .i64 d, .int .i64 x, .slice (some ⟨w.heap.size + 1, 0, none⟩) z z, .int .i64 0], .int .i64 0]) ?_ rfl ⟨_, rfl, H6.out.1, H6.out.2⟩
  generalize setK W2 w.heap.size (.slice (some ⟨w.heap.size + 1, 0, none⟩) z z) ⟨d, x, List.replicate z 0, 0⟩ = wf at *
  simp [results, Try.results9, go_sem, r0, r1, r2, r3]
end Go.Proofs.Ytenfpkokogfdaaa
