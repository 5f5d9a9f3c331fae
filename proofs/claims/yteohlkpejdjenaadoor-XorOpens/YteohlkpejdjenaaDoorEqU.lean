/- What slices.Equal answers of two rows of measures. -/
import Derived.Test.YteohlkpejdjenaaDoorKitK
import Derived.Test.YteohlkpejdjenaaDoorEq
import Derived.Test.YteohlkpejdjenaaDoorCheck
namespace Go.Proofs.YteohlkpejdjenaaDoor
open Go.RowKit
set_option linter.unusedVariables false
theorem getD_extI {l m : List Int} (h : l.length = m.length) (h2 : ∀ i, i < l.length → l.getD i 0 = m.getD i 0) : l = m := by
  apply List.ext_getElem h
  intro i a b
  have := h2 i a
  simpa [List.getD_eq_getElem?_getD, List.getElem?_eq_getElem a, List.getElem?_eq_getElem b] using this
set_option maxHeartbeats 1000000 in
theorem equalI_any (v1 v2 : Value) (l m : List Int) (w : World) (h1 : RowK .u64 w v1 l) (h2 : RowK .u64 w v2 m) :
    Calls Tryd.prog 17 #[v1, v2] w fun e w' => e = .returned (.bool (sameL l m)) ∧ Below w.heap.size w w' := by
  obtain ⟨a1, c1, rfl, ⟨hlc1, hm1, _⟩, hcase1⟩ := h1
  obtain ⟨a2, c2, rfl, ⟨hlc2, hm2, _⟩, hcase2⟩ := h2
  unfold maxLen at hm1 hm2
  by_cases h : l.length = m.length
  · have hl : ((l.length : Int) != (m.length : Int)) = false := by simp [h]
    have HL := hide h
    rw [← h] at hl hlc2 hcase2 ⊢
    clear h
    go_enter Tryd.func17, Tryd.ntmps17
    go_wp2
    go_loopw [13] (fun i wr => ∃ (k : Nat), k ≤ l.length ∧ i = .int .i64 k ∧ (∀ j, j < k → l.getD j 0 = m.getD j 0) ∧ ∃ q, wr = w.drewN q) (fun i _ => l.length - (intOf i).toNat)
    case atStart => exact ⟨0, by omega, rfl, fun j hj => by omega, 0, rfl⟩
    case round =>
      obtain ⟨k, hk, rfl, heq, q, rfl⟩ := hrel
      have HE := hide heq
      clear heq
      by_cases hlt : k < l.length
      · rcases hcase1 with h | ⟨p1, o1, rfl, hbs1, hcell1⟩
        · rw [h] at hlt; simp at hlt
        rcases hcase2 with h | ⟨p2, o2, rfl, hbs2, hcell2⟩
        · have h3 := HL.out
          rw [h, List.length_nil] at h3
          omega
        have g1 := hcell1 k hlt
        have g2 := hcell2 k hlt
        have j0 : (0 : Int) ≤ (k : Int) := by omega
        have j1 : (k : Int) < (l.length : Int) := by omega
        generalize hx : l.getD k 0 = x at g1
        generalize hy : m.getD k 0 = y at g2
        have HX := hide hx
        have HY := hide hy
        clear hx hy hcell1 hcell2
        by_cases hxy : x = y
        · have hne : (x != y) = false := by simp [hxy]
          go_wp2
          go_quiet (fail)
          go_wp2
          go_roundw
          case rel =>
            refine ⟨k + 1, by omega, by go_num, fun j hj => ?_, q + nq, rfl⟩
            rcases Nat.lt_or_ge j k with h | h
            · exact HE.out j h
            · obtain rfl : j = k := by omega
              rw [HX.out, HY.out, hxy]
          case measure => simp [intOf]; omega
        · have hne : (x != y) = true := by simp [hxy]
          have hs : Hid (sameL l m = false) := by
            show _ = _
            unfold sameL
            rw [decide_eq_false_iff_not]
            intro h
            apply hxy
            rw [← HX.out, ← HY.out, h]
          go_wp2
          go_quiet (fail)
          go_wp2
          go_ret
          rw [hs.out]
          exact ⟨rfl, Below.drewN (Below.drewN (Below.refl _ _) _) _⟩
      · have hs : Hid (sameL l m = true) := by
          show _ = _
          unfold sameL
          rw [decide_eq_true_eq]
          exact getD_extI HL.out fun i hi => HE.out i (by omega)
        have hd : decide ((k : Int) < (l.length : Int)) = false := by simp; omega
        go_wp2
        go_ret
        rw [hs.out]
        exact ⟨rfl, Below.drewN (Below.refl _ _) _⟩
  · have hl : ((l.length : Int) != (m.length : Int)) = true := by rw [bne_iff_ne]; omega
    have hs : Hid (sameL l m = false) := by
      show _ = _
      unfold sameL
      rw [decide_eq_false_iff_not]
      intro e
      exact h (by rw [e])
    clear h
    go_enter Tryd.func17, Tryd.ntmps17
    go_wp2
    go_ret
    rw [hs.out]
    exact ⟨rfl, Below.refl _ _⟩
end Go.Proofs.YteohlkpejdjenaaDoor
