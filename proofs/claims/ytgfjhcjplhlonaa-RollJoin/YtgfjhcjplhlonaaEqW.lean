/- Rows of the same windows are found to be the same. -/
import Derived.Test.YtgfjhcjplhlonaaRollR
namespace Go.Proofs.Ytgfjhcjplhlonaa
open Go.RowKit
set_option linter.unusedVariables false
set_option maxHeartbeats 1000000 in
theorem equalW_self (v1 v2 : Value) (l : List P.Wn) (w : World) (h1 : RowW w v1 l) (h2 : RowW w v2 l) :
    Calls Try.prog 17 #[v1, v2] w fun e w' => e = .returned (.bool true) ∧ Below w.heap.size w w' := by
  obtain ⟨a1, c1, rfl, ⟨hlc1, hm1, _⟩, hcase1⟩ := h1
  obtain ⟨a2, c2, rfl, ⟨hlc2, hm2, _⟩, hcase2⟩ := h2
  unfold maxLen at hm1 hm2
  go_enter Try.func17, Try.ntmps17
  go_wp2
  go_loopw [13] (fun i wr => ∃ (k : Nat), k ≤ l.length ∧ i = .int .i64 k ∧ ∃ q, wr = w.drewN q) (fun i _ => l.length - (intOf i).toNat)
  case atStart => exact ⟨0, by omega, rfl, 0, rfl⟩
  case round =>
    obtain ⟨k, hk, rfl, q, rfl⟩ := hrel
    by_cases hlt : k < l.length
    · rcases hcase1 with h | ⟨p1, o1, rfl, hbs1, hcell1⟩
      · rw [h] at hlt; simp at hlt
      rcases hcase2 with h | ⟨p2, o2, rfl, hbs2, hcell2⟩
      · rw [h] at hlt; simp at hlt
      obtain ⟨x, hx⟩ : ∃ x, l[k]? = some x := ⟨_, List.getElem?_eq_getElem hlt⟩
      obtain ⟨g0, g1, g2, g3, g4, g5, g6⟩ := RowW.at hcell1 hx
      obtain ⟨q0, q1, q2, q3, q4, q5, q6⟩ := RowW.at hcell2 hx
      have j0 : (0 : Int) ≤ (k : Int) := by omega
      have j1 : (k : Int) < (l.length : Int) := by omega
      clear hcell1 hcell2 hx
      obtain ⟨x0, x1, x2, x3, x4, x5, x6⟩ := x
      simp only at g0 g1 g2 g3 g4 g5 g6 q0 q1 q2 q3 q4 q5 q6
      go_wp2
      go_quiet (fail)
      go_wp2
      go_roundw
      case rel => exact ⟨k + 1, by omega, by go_num, q + nq, rfl⟩
      case measure => simp [intOf]; omega
    · have hd : decide ((k : Int) < (l.length : Int)) = false := by simp; omega
      go_wp2
      go_ret
      exact ⟨rfl, below_dn (Below.refl _ _) _⟩
end Go.Proofs.Ytgfjhcjplhlonaa
