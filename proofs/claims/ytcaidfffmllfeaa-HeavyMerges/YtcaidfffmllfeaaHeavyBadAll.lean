/- Several texts in one. -/
import Derived.Test.YtcaidfffmllfeaaHeavyTAll
/- Shared by the statements of tallies: what is known behind tallied and Count. -/
namespace Go.Proofs.Ytcaidfffmllfeaa
open Go.RowKit
set_option linter.unusedVariables false
namespace P
theorem cnE_short {S : Hv} {q : ByteArray} (h : Good S) (hq : ¬ 40 < q.size) : cnE S q = 0 := by unfold cnE; rw [if_neg (not_not_intro h), if_neg hq]
theorem cnE_long {S : Hv} {q : ByteArray} (h : Good S) (hq : 40 < q.size) : cnE S q = 2 := by unfold cnE; rw [if_neg (not_not_intro h), if_pos hq]
theorem cnN_short {S : Hv} {q : ByteArray} (h : Good S) (hq : ¬ 40 < q.size) : cnN S q = look S.l q := by unfold cnN; rw [cnE_short h hq]; rfl
theorem cnN_long {S : Hv} {q : ByteArray} (h : Good S) (hq : 40 < q.size) : cnN S q = 0 := by unfold cnN; rw [cnE_long h hq]; rfl
theorem lgB_one {q : ByteArray} : lgB [q] = decide (40 < (q.size : Int)) := by
  by_cases h : 40 < q.size
  · rw [lgB_yes ⟨q, by simp, h⟩]; symm; simp; omega
  · rw [lgB_no (by simpa using h)]; symm; simp; omega
/-- The ways in which it goes wrong, one after the other. -/
theorem bad_ways {k : Int} {l : List ByteArray} (h : Bad k l) : k < 1 ∨ (decide (k < 1) = false ∧ 64 < k) ∨ (decide (k < 1) = false ∧ decide (64 < k) = false ∧ lgB l = true) ∨ (decide (k < 1) = false ∧ decide (64 < k) = false ∧ lgB l = false ∧ (1000000000 : Int) < l.length) := by
  by_cases h1 : k < 1
  · exact .inl h1
  by_cases h2 : 64 < k
  · exact .inr (.inl ⟨by simpa using h1, h2⟩)
  by_cases h3 : ∃ x ∈ l, 40 < x.size
  · exact .inr (.inr (.inl ⟨by simpa using h1, by simpa using h2, lgB_yes h3⟩))
  · refine .inr (.inr (.inr ⟨by simpa using h1, by simpa using h2, lgB_no h3, ?_⟩))
    rcases h with h | h | h | h
    · exact absurd h h1
    · exact absurd h h2
    · exact absurd h h3
    · omega
end P
theorem row_one (w : World) (q : ByteArray) : RowT (w.alloc (.cells #[.string q] 9)) (.slice (some ⟨w.heap.size, 0, none⟩) 1 1) [q] := RowX.one stC 1 w q _
end Go.Proofs.Ytcaidfffmllfeaa
