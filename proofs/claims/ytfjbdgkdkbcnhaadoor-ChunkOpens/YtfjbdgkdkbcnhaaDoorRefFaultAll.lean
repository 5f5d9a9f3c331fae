/- Several texts in one. -/
import Derived.Test.YtfjbdgkdkbcnhaaDoorChunkPAll
import Derived.Test.YtfjbdgkdkbcnhaaDoorEqSAll
/- What the document's own SamplesFault and SameSamples answer. -/
namespace Go.Proofs.YtfjbdgkdkbcnhaaDoor
open Go.RowKit
set_option linter.unusedVariables false
theorem samplesFault_any (v : Value) (l : List (Int × Int)) (w : World) (hr : RowS w v l) : Calls Tryd.prog 8 #[v] w fun e w' => e = .returned (.int .i64 (P.chk l)) ∧ Below w.heap.size w w' := by
  obtain ⟨a, cap, rfl, ⟨hlc, hmax, hnn⟩, hcase⟩ := hr
  unfold maxLen at hmax
  by_cases hn : 1000 < l.length
  · have hd : decide (1000 < (l.length : Int)) = true := by simp; omega
    have HC := hide (P.chk_large hn)
    go_enter Tryd.func8, Tryd.ntmps8
    go_wp2
    go_ret
    exact ⟨ret_int HC.out.symm, Below.refl _ _⟩
  · have hd : decide (1000 < (l.length : Int)) = false := by simp; omega
    have hn' : l.length ≤ 1000 := by omega
    clear hn
    go_enter Tryd.func8, Tryd.ntmps8
    go_wp2
    go_loopw [9] (fun i wr => ∃ (k : Nat), k ≤ l.length ∧ i = .int .i64 k ∧ (∀ j, j + 1 < k → (l.getD j (0, 0)).1 < (l.getD (j + 1) (0, 0)).1) ∧ ∃ q, wr = w.drewN q) (fun i _ => l.length - (intOf i).toNat)
    case atStart => exact ⟨0, by omega, rfl, fun j hj => by omega, 0, rfl⟩
    case round =>
      obtain ⟨k, hk, rfl, heq, q, rfl⟩ := hrel
      have HE := hide heq
      clear heq
      by_cases hlt : k < l.length
      · rcases hcase with h | ⟨b, off, rfl, hbs, hcell⟩
        · rw [h] at hlt; simp at hlt
        have j0 : (0 : Int) ≤ (k : Int) := by omega
        have j1 : (k : Int) < (l.length : Int) := by omega
        by_cases hk0 : 0 < k
        · obtain ⟨i, hi⟩ : ∃ i, i + 1 = k := ⟨k - 1, by omega⟩
          have g1 := (hcell k hlt).1
          have g0 := (hcell i (by omega)).1
          clear hcell
          have HT := hide (show (∀ x y, (l.getD i (0, 0)).1 = x → (l.getD k (0, 0)).1 = y → y ≤ x → P.chk l = 5) from fun x y hx hy h => P.chk_order hn' (i := i) (by omega) (by rw [hi, hx, hy]; exact h))
          generalize hx : (l.getD i (0, 0)).1 = x at g0
          generalize hy : (l.getD k (0, 0)).1 = y at g1
          have HXx := hide hx
          have HYy := hide hy
          clear hx hy
          have ei : IntKind.i64.wrap ((k : Int) - 1) = (i : Int) := by rw [IntKind.wrap_i64]; omega
          have HI := hide hi
          clear hi hk
          have j2 : (i : Int) < (l.length : Int) := by have := HI.out; omega
          have j3 : (0 : Int) ≤ (i : Int) := by omega
          have j4 : (0 : Int) < (k : Int) := by omega
          by_cases hxy : y ≤ x
          · go_wp2
            go_quiet (fail)
            go_wp2
            go_ret
            exact ⟨ret_int (HT.out x y HXx.out HYy.out hxy).symm, below_dn (below_dn (Below.refl _ _) _) _⟩
          · have ht : decide (y ≤ x) = false := by simpa using hxy
            go_wp2
            go_quiet (fail)
            go_wp2
            go_roundw
            case rel =>
              refine ⟨k + 1, by omega, by go_num, fun j hj => ?_, q + nq, rfl⟩
              rcases Nat.lt_or_ge (j + 1) k with h | h
              · exact HE.out j h
              · have := HI.out
                obtain rfl : j = i := by omega
                rw [this, HXx.out, HYy.out]; omega
            case measure => simp [intOf]; omega
        · clear hcell
          obtain rfl : k = 0 := by omega
          go_wp2
          go_quiet (fail)
          go_wp2
          go_roundw
          case rel => exact ⟨1, by omega, by go_num, fun j hj => by omega, q + nq, rfl⟩
          case measure => simp [intOf]; omega
      · have hd : decide ((k : Int) < (l.length : Int)) = false := by simp; omega
        have HC : Hid (P.chk l = 0) := P.chk_ok hn' (P.ris_of_steps l fun i hi => HE.out i (by omega))
        go_wp2
        go_ret
        exact ⟨ret_int HC.out.symm, below_dn (Below.refl _ _) _⟩
set_option maxHeartbeats 1000000 in
theorem sameSamples_any (v1 v2 : Value) (l m : List (Int × Int)) (w : World) (h1 : RowS w v1 l) (h2 : RowS w v2 m) :
    Calls Tryd.prog 14 #[v1, v2] w fun e w' => e = .returned (.bool (sameS l m)) ∧ Below w.heap.size w w' := by
  obtain ⟨a1, c1, rfl, ⟨hlc1, hm1, _⟩, hcase1⟩ := h1
  obtain ⟨a2, c2, rfl, ⟨hlc2, hm2, _⟩, hcase2⟩ := h2
  unfold maxLen at hm1 hm2
  by_cases h : l.length = m.length
  · have hl : ((l.length : Int) != (m.length : Int)) = false := by simp [h]
    have HL := hide h
    rw [← h] at hl hlc2 hcase2 ⊢
    clear h
    go_enter Tryd.func14, Tryd.ntmps14
    go_wp2
    go_loopw [13] (fun i wr => ∃ (k : Nat), k ≤ l.length ∧ i = .int .i64 k ∧ (∀ j, j < k → l.getD j (0, 0) = m.getD j (0, 0)) ∧ ∃ q, wr = w.drewN q) (fun i _ => l.length - (intOf i).toNat)
    case atStart => exact ⟨0, by omega, rfl, fun j hj => by omega, 0, rfl⟩
    case round =>
      obtain ⟨k, hk, rfl, heq, q, rfl⟩ := hrel
      have HE := hide heq
      clear heq
      by_cases hlt : k < l.length
      · rcases hcase1 with h | ⟨p1, o1, rfl, hbs1, hcell1⟩
        · rw [h] at hlt; simp at hlt
        rcases hcase2 with h | ⟨p2, o2, rfl, hbs2, hcell2⟩
        · have h3 := HL.out
          rw [h, List.length_nil] at h3
          omega
        obtain ⟨g1, g1'⟩ := hcell1 k hlt
        obtain ⟨g2, g2'⟩ := hcell2 k hlt
        have j0 : (0 : Int) ≤ (k : Int) := by omega
        have j1 : (k : Int) < (l.length : Int) := by omega
        clear hcell1 hcell2
        generalize hx : l.getD k (0, 0) = x at g1 g1'
        generalize hy : m.getD k (0, 0) = y at g2 g2'
        obtain ⟨x0, x1⟩ := x
        obtain ⟨y0, y1⟩ := y
        have HX := hide hx
        have HY := hide hy
        clear hx hy
        simp only at g1 g1' g2 g2'
        by_cases h0 : x0 = y0
        · have e0 : (x0 == y0) = true := by simp [h0]
          by_cases h1 : x1 = y1
          · have e1 : (x1 == y1) = true := by simp [h1]
            go_wp2
            go_quiet (fail)
            go_wp2
            go_roundw
            case rel =>
              refine ⟨k + 1, by omega, by go_num, fun j hj => ?_, q + nq, rfl⟩
              rcases Nat.lt_or_ge j k with h | h
              · exact HE.out j h
              · obtain rfl : j = k := by omega
                rw [HX.out, HY.out, h0, h1]
            case measure => simp [intOf]; omega
          · have e1 : (x1 == y1) = false := by simp [h1]
            have hs : Hid (sameS l m = false) := by
              show _ = _
              unfold sameS
              rw [decide_eq_false_iff_not]
              intro h
              apply h1
              have := HX.out
              rw [h, HY.out] at this
              simp at this; omega
            go_wp2
            go_quiet (fail)
            go_wp2
            go_ret
            rw [hs.out]
            exact ⟨rfl, below_dn (below_dn (Below.refl _ _) _) _⟩
        · have e0 : (x0 == y0) = false := by simp [h0]
          have hs : Hid (sameS l m = false) := by
            show _ = _
            unfold sameS
            rw [decide_eq_false_iff_not]
            intro h
            apply h0
            have := HX.out
            rw [h, HY.out] at this
            simp at this; omega
          go_wp2
          go_quiet (fail)
          go_wp2
          go_ret
          rw [hs.out]
          exact ⟨rfl, below_dn (below_dn (Below.refl _ _) _) _⟩
      · have hs : Hid (sameS l m = true) := by
          show _ = _
          unfold sameS
          rw [decide_eq_true_eq]
          exact getD_extS HL.out fun i hi => HE.out i (by omega)
        have hd : decide ((k : Int) < (l.length : Int)) = false := by simp; omega
        go_wp2
        go_ret
        rw [hs.out]
        exact ⟨rfl, below_dn (Below.refl _ _) _⟩
  · have hl : ((l.length : Int) != (m.length : Int)) = true := by rw [bne_iff_ne]; omega
    have hs : Hid (sameS l m = false) := by
      show _ = _
      unfold sameS
      rw [decide_eq_false_iff_not]
      intro e
      exact h (by rw [e])
    clear h
    go_enter Tryd.func14, Tryd.ntmps14
    go_wp2
    go_ret
    rw [hs.out]
    exact ⟨rfl, Below.refl _ _⟩
end Go.Proofs.YtfjbdgkdkbcnhaaDoor
