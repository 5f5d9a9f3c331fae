/- What Empty answers, and that ranks answers true. -/
import Derived.Test.YtlndbmenaaiogaaRankC
namespace Go.Proofs.Ytlndbmenaaiogaa
open Go.RowKit
set_option linter.unusedVariables false
abbrev zeroR : Value := .agg #[.int .i64 0, .slice none 0 0, .slice none 0 0, .int .i64 0, .int .i64 0]
abbrev empV (k : Int) : Value := .agg #[.int .i64 k, .slice none 0 0, .slice none 0 0, .int .i64 0, .int .i64 0]
theorem Empty_ok (k : Int) (w : World) (h : 2 ≤ k ∧ k ≤ 64) : Calls Try.prog 9 #[.int .i64 k] w fun e w' => e = .returned (.tuple #[empV k, .int .i64 0]) ∧ Below w.heap.size w w' := by
  have HK := hide (fun wx => isK_any k wx)
  rw [decide_eq_true h] at HK
  clear h
  go_enter Try.func9, Try.ntmps9
  go_wp2_with (go_at_call 26; go_must (refine (HK.out _).mono ?_); rintro e w1 ⟨rfl, rfl⟩)
  refine bodyPost_ret (v := .tuple #[empV k, .int .i64 0]) (by simp [results, Try.results9, go_sem]) rfl ⟨rfl, ?_⟩
  exact (Below.refl _ w).alloc (Nat.le_refl _) _
theorem Empty_bad (k : Int) (w : World) (h : ¬ (2 ≤ k ∧ k ≤ 64)) : Calls Try.prog 9 #[.int .i64 k] w fun e w' => e = .returned (.tuple #[zeroR, .int .i64 1]) ∧ Below w.heap.size w w' := by
  have HK := hide (fun wx => isK_any k wx)
  rw [decide_eq_false h] at HK
  clear h
  go_enter Try.func9, Try.ntmps9
  go_wp2_with (go_at_call 26; go_must (refine (HK.out _).mono ?_); rintro e w1 ⟨rfl, rfl⟩)
  refine bodyPost_ret (v := .tuple #[zeroR, .int .i64 1]) (by simp [results, Try.results9, go_sem]) rfl ⟨rfl, ?_⟩
  exact (Below.refl _ w).alloc (Nat.le_refl _) _
theorem ranks_any (w : World) : Calls Try.prog 22 #[] w fun e w' => e = .returned (.bool true) ∧ Below w.heap.size w w' := by
  have HE := hide (Empty_ok 4 w (by decide))
  go_enter Try.func22, Try.ntmps22
  go_wp2_with (go_at_call 9; go_must (refine HE.out.mono ?_); rintro e w1 ⟨rfl, hb⟩)
  go_ret
  exact ⟨rfl, hb.alloc hb.size _⟩
end Go.Proofs.Ytlndbmenaaiogaa
