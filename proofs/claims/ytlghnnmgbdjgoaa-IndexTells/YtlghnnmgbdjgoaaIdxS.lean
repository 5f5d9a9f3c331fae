/- Are numbers sorted? -/
import Derived.Test.YtlghnnmgbdjgoaaIdxE
namespace Go.Proofs.Ytlghnnmgbdjgoaa
open Go.RowKit
set_option linter.unusedVariables false
theorem cmpLess_any (x y : Int) (w : World) : Calls Try.prog 49 #[.int .i64 x, .int .i64 y] w fun e w' => e = .returned (.bool (decide (x < y))) ∧ w' = w := by
  have HN := hide (fun z w => Try.cmp_isNaN_int z w)
  cases h : decide (x < y) with
  | true =>
    go_enter Try.func49, Try.ntmps49
    go_wp2_with (go_at_call 84; refine (HN.out _ _).mono ?_; rintro e w' ⟨rfl, rfl⟩)
    go_ret
    exact ⟨rfl, rfl⟩
  | false =>
    go_enter Try.func49, Try.ntmps49
    go_wp2_with (go_at_call 84; refine (HN.out _ _).mono ?_; rintro e w' ⟨rfl, rfl⟩)
    go_ret
    exact ⟨rfl, rfl⟩
set_option maxHeartbeats 1000000 in
theorem isSorted_asc (v : Value) (l : List Int) (w : World) (h : RowK .i64 w v l) (ha : Q.Asc l) : Calls Try.prog 27 #[v] w fun e w' => e = .returned (.bool true) ∧ Below w.heap.size w w' := by
  have HL := hide (fun x y w => cmpLess_any x y w)
  obtain ⟨a, cap, rfl, ⟨hlc, hmax, hnn⟩, hcase⟩ := h
  unfold maxLen at hmax
  have HA : Hid (∀ i j, i < j → j < l.length → decide (l.getD j 0 < l.getD i 0) = false) := fun i j hij hj => by
    have := List.pairwise_iff_getElem.1 ha i j (by omega) hj hij
    simp only [List.getD_eq_getElem?_getD, List.getElem?_eq_getElem hj, List.getElem?_eq_getElem (show i < l.length by omega), Option.getD_some, decide_eq_false_iff_not]
    omega
  clear ha
  have h0 : IntKind.i64.wrap ((l.length : Int) - 1) = (l.length : Int) - 1 := by rw [IntKind.wrap_i64]; omega
  go_enter Try.func27, Try.ntmps27
  go_wp2
  go_loopw [3] (fun i wr => ∃ (z : Int), -1 ≤ z ∧ z < (l.length : Int) ∧ i = .int .i64 z ∧ Below w.heap.size w wr) (fun i _ => (intOf i).toNat)
  case atStart => exact ⟨(l.length : Int) - 1, by omega, by omega, rfl, Below.refl _ _⟩
  case round =>
    obtain ⟨z, hz0, hz1, rfl, hB⟩ := hrel
    by_cases hp : 0 < z
    · obtain ⟨k, p, rfl, hkp⟩ : ∃ k p : Nat, z = (p : Int) ∧ p = k + 1 := ⟨(z - 1).toNat, z.toNat, by omega, by omega⟩
      rcases hcase with h | ⟨b, off, rfl, hbs, hcell⟩
      · rw [h] at hz1; simp at hz1; omega
      have q0 := fun n => (below_dn hB n).cell (p := ⟨b, off + p, none⟩) hbs |>.trans (hcell p (by omega))
      have q1 := fun n => (below_dn hB n).cell (p := ⟨b, off + k, none⟩) hbs |>.trans (hcell k (by omega))
      have HF := HA.out k p (by omega) (by omega)
      have HLs := hide (fun w => HL.out (l.getD p 0) (l.getD k 0) w)
      rw [HF] at HLs
      have e1 : IntKind.i64.wrap ((p : Int) - 1) = (k : Int) := by rw [IntKind.wrap_i64]; omega
      have j0 : (0 : Int) ≤ (k : Int) := by omega
      have j1 : (k : Int) < (l.length : Int) := by omega
      have j2 : (0 : Int) ≤ (p : Int) := by omega
      have j3 : (k : Int) < (p : Int) := by omega
      have hd : decide (0 < (p : Int)) = true := by simp; omega
      have hp2 : ¬ ((p : Int) < 0) := by omega
      generalize l.getD p 0 = lp at q0 HLs
      generalize l.getD k 0 = lk at q1 HLs
      clear hkp HF HA HL hcell hz0
      go_wp2
      go_quiet ((go_at_call 49; exact Calls.quiet_of_same (HLs.out _)))
      go_wp2
      go_roundw
      case rel => exact ⟨(k : Int), by omega, by omega, by first | rfl | go_num, below_dn hB _⟩
      case measure => simp [intOf]; omega
    · have hd : decide (0 < z) = false := by simp; omega
      go_wp2
      go_ret
      exact ⟨rfl, hB⟩
end Go.Proofs.Ytlghnnmgbdjgoaa
