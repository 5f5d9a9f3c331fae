/- Query in one contract. -/
import Derived.Test.YtlndbmenaaiogaaRankO2
namespace Go.Proofs.Ytlndbmenaaiogaa
open Go.RowKit
set_option linter.unusedVariables false
theorem Query_any (tv lv : Value) (s : P.Rk) (r : Int) (w : World) (hr : RkV w tv lv s) :
    Calls Try.prog 19 #[aggR tv lv s, .int .i64 r] w fun e w' => ∃ x, e = .returned (.tuple #[.int .i64 x, .int .i64 (P.qE s r)]) ∧ (P.qE s r ≠ 0 → x = 0) ∧ (P.qE s r = 0 → P.IsQ s r x) ∧ Below w.heap.size w w' := by
  by_cases h : P.qE s r = 0
  · obtain ⟨hg, h1, h2⟩ := P.qE_zero h
    refine (Query_ok tv lv s r w hr hg h1 h2).mono ?_
    rintro e w' ⟨x, rfl, hq, hb⟩
    exact ⟨x, by rw [h], fun hn => absurd h hn, fun _ => hq, hb⟩
  · refine (Query_err tv lv s r w hr h).mono ?_
    rintro e w' ⟨rfl, hb⟩
    exact ⟨0, rfl, fun _ => rfl, fun h0 => absurd h0 h, hb⟩
end Go.Proofs.Ytlndbmenaaiogaa
