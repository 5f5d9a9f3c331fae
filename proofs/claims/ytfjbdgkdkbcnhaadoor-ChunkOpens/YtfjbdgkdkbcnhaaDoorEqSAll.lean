/- Several texts in one. -/
import Derived.Test.YtfjbdgkdkbcnhaaDoorChunkPAll
/- What slices.Equal answers of two rows of samples. -/
namespace Go.Proofs.YtfjbdgkdkbcnhaaDoor
open Go.RowKit
set_option linter.unusedVariables false
/-- Are samples the same? -/
def sameS (l m : List (Int × Int)) : Bool := decide (l = m)
theorem sameS_self (l : List (Int × Int)) : sameS l l = true := by unfold sameS; simp
theorem getD_extS {l m : List (Int × Int)} (h : l.length = m.length) (h2 : ∀ i, i < l.length → l.getD i (0, 0) = m.getD i (0, 0)) : l = m := by
  apply List.ext_getElem h
  intro i a b
  have := h2 i a
  simpa [List.getD_eq_getElem?_getD, List.getElem?_eq_getElem a, List.getElem?_eq_getElem b] using this
set_option maxHeartbeats 1000000 in
theorem equalS_any (v1 v2 : Value) (l m : List (Int × Int)) (w : World) (h1 : RowS w v1 l) (h2 : RowS w v2 m) :
    Calls Tryd.prog 36 #[v1, v2] w fun e w' => e = .returned (.bool (sameS l m)) ∧ Below w.heap.size w w' := by
  obtain ⟨a1, c1, rfl, ⟨hlc1, hm1, _⟩, hcase1⟩ := h1
  obtain ⟨a2, c2, rfl, ⟨hlc2, hm2, _⟩, hcase2⟩ := h2
  unfold maxLen at hm1 hm2
  by_cases h : l.length = m.length
  · have hl : ((l.length : Int) != (m.length : Int)) = false := by simp [h]
    have HL := hide h
    rw [← h] at hl hlc2 hcase2 ⊢
    clear h
    go_enter Tryd.func36, Tryd.ntmps36
    go_wp2
    go_loopw [13] (fun i wr => ∃ (k : Nat), k ≤ l.length ∧ i = .int .i64 k ∧ (∀ j, j < k → l.getD j (0, 0) = m.getD j (0, 0)) ∧ ∃ q, wr = w.drewN q) (fun i _ => l.length - (intOf i).toNat)
    case atStart => exact ⟨0, by omega, rfl, fun j hj => by omega, 0, rfl⟩
    case round =>
      obtain ⟨k, hk, rfl, heq, q, rfl⟩ := hrel
      have HE := hide heq
      clear heq
      by_cases hlt : k < l.length
      · rcases hcase1 with h | ⟨p1, o1, rfl, hbs1, hcell1⟩
        · rw [h] at hlt; simp at hlt
        rcases hcase2 with h | ⟨p2, o2, rfl, hbs2, hcell2⟩
        · have h3 := HL.out
          rw [h, List.length_nil] at h3
          omega
        obtain ⟨g1, g1'⟩ := hcell1 k hlt
        obtain ⟨g2, g2'⟩ := hcell2 k hlt
        have j0 : (0 : Int) ≤ (k : Int) := by omega
        have j1 : (k : Int) < (l.length : Int) := by omega
        clear hcell1 hcell2
        generalize hx : l.getD k (0, 0) = x at g1 g1'
        generalize hy : m.getD k (0, 0) = y at g2 g2'
        obtain ⟨x0, x1⟩ := x
        obtain ⟨y0, y1⟩ := y
        have HX := hide hx
        have HY := hide hy
        clear hx hy
        simp only at g1 g1' g2 g2'
        by_cases h0 : x0 = y0
        · have e0 : (x0 == y0) = true := by simp [h0]
          by_cases h1 : x1 = y1
          · have e1 : (x1 == y1) = true := by simp [h1]
            go_wp2
            go_quiet (fail)
            go_wp2
            go_roundw
            case rel =>
              refine ⟨k + 1, by omega, by go_num, fun j hj => ?_, q + nq, rfl⟩
              rcases Nat.lt_or_ge j k with h | h
              · exact HE.out j h
              · obtain rfl : j = k := by omega
                rw [HX.out, HY.out, h0, h1]
            case measure => simp [intOf]; omega
          · have e1 : (x1 == y1) = false := by simp [h1]
            have hs : Hid (sameS l m = false) := by
              show _ = _
              unfold sameS
              rw [decide_eq_false_iff_not]
              intro h
              apply h1
              have := HX.out
              rw [h, HY.out] at this
              simp at this; omega
            go_wp2
            go_quiet (fail)
            go_wp2
            go_ret
            rw [hs.out]
            exact ⟨rfl, below_dn (below_dn (Below.refl _ _) _) _⟩
        · have e0 : (x0 == y0) = false := by simp [h0]
          have hs : Hid (sameS l m = false) := by
            show _ = _
            unfold sameS
            rw [decide_eq_false_iff_not]
            intro h
            apply h0
            have := HX.out
            rw [h, HY.out] at this
            simp at this; omega
          go_wp2
          go_quiet (fail)
          go_wp2
          go_ret
          rw [hs.out]
          exact ⟨rfl, below_dn (below_dn (Below.refl _ _) _) _⟩
      · have hs : Hid (sameS l m = true) := by
          show _ = _
          unfold sameS
          rw [decide_eq_true_eq]
          exact getD_extS HL.out fun i hi => HE.out i (by omega)
        have hd : decide ((k : Int) < (l.length : Int)) = false := by simp; omega
        go_wp2
        go_ret
        rw [hs.out]
        exact ⟨rfl, below_dn (Below.refl _ _) _⟩
  · have hl : ((l.length : Int) != (m.length : Int)) = true := by rw [bne_iff_ne]; omega
    have hs : Hid (sameS l m = false) := by
      show _ = _
      unfold sameS
      rw [decide_eq_false_iff_not]
      intro e
      exact h (by rw [e])
    clear h
    go_enter Tryd.func36, Tryd.ntmps36
    go_wp2
    go_ret
    rw [hs.out]
    exact ⟨rfl, Below.refl _ _⟩
theorem same_any (v1 v2 : Value) (l m : List (Int × Int)) (w : World) (h1 : RowS w v1 l) (h2 : RowS w v2 m) :
    Calls Tryd.prog 16 #[v1, v2] w fun e w' => e = .returned (.bool (sameS l m)) ∧ Below w.heap.size w w' := by
  have HE := hide (equalS_any v1 v2 l m w h1 h2)
  go_enter Tryd.func16, Tryd.ntmps16
  go_wp2_with (go_at_call 36; go_must (refine HE.out.mono ?_); rintro e w' ⟨rfl, hb⟩)
  go_ret
  exact ⟨rfl, hb⟩
end Go.Proofs.YtfjbdgkdkbcnhaaDoor
