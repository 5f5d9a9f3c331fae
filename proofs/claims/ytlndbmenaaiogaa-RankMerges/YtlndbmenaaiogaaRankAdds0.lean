/- RankBounds in one contract, and the rank of nothing. -/
import Derived.Test.YtlndbmenaaiogaaRefRkR
namespace Go.Proofs.Ytlndbmenaaiogaa
open Go.RowKit
set_option linter.unusedVariables false
theorem RkV.zero (w : World) (k n sl : Int) : RkV w (.slice none 0 0) (.slice none 0 0) ⟨k, [], [], n, sl⟩ := ⟨nilRow _ _, none, 0, rfl, ⟨by simp, by simp⟩, .inl rfl⟩
/-- RankBounds in one contract. -/
theorem rankBounds_any (tv lv : Value) (s : P.Rk) (w : World) (hr : RkV w tv lv s) : Calls Try.prog 14 #[aggR tv lv s] w fun e w' => ∃ (tb lb : Value) (B : P.Rk) (er : Int), e = .returned (.tuple #[aggR tb lb B, .int .i64 er]) ∧ RkV w' tb lb B ∧ Below w.heap.size w w' ∧
    (P.bndE s = 0 → B = s ∧ er = 0) ∧ (P.bndE s ≠ 0 → B = ⟨0, [], [], 0, 0⟩ ∧ er = 2) := by
  obtain ⟨x, y, rfl, _, _⟩ := hr.tail.nil_of
  obtain ⟨a, c, rfl, _⟩ := hr.lv
  by_cases h0 : P.bndE s = 0
  · refine (rankBounds_ok _ a c s w h0 ⟨_, _, rfl⟩).mono ?_
    rintro e w' ⟨rfl, hb⟩
    exact ⟨_, _, s, 0, rfl, hr.below hb (Nat.le_refl _), hb, fun _ => ⟨rfl, rfl⟩, fun hn => absurd h0 hn⟩
  · refine (rankBounds_bad _ a c s w h0 ⟨_, _, rfl⟩).mono ?_
    rintro e w' ⟨rfl, hb⟩
    exact ⟨_, _, ⟨0, [], [], 0, 0⟩, 2, rfl, RkV.zero _ _ _ _, hb, fun hn => absurd hn h0, fun _ => ⟨rfl, rfl⟩⟩
end Go.Proofs.Ytlndbmenaaiogaa
